"""Walls: held against all stands and inputs, and papers of them."""

from everguard.errors import NoWall
from everguard.machines import literal_of_wish
from everguard.numbers import Numbers
from everguard.pieces import are_at_odds
from everguard.pieces import is_kept
from everguard.pieces import is_kept_at_first
from everguard.pieces import spots_of
from everguard.pieces import wall_clauses
from everguard.pieces import wants_of
from everguard.running import all_inputs
from everguard.running import all_stands
from everguard.running import first_stands
from everguard.running import stand_behind
from everguard.running import value_of
from everguard.running import values_at
from everguard.searching import Search
from everguard.solving import answer_of

MOST_LEARNT = 100


def wall_fault(machine, wish, wall):
    """None where it is a wall of the wish, else the first fault that is due."""
    pieces = [spots_of(machine, piece) for piece in wall]
    fault = first_fault(machine, pieces)
    if fault is not None:
        return fault
    return later_fault(machine, literal_of_wish(machine, wish), pieces)


def first_fault(machine, pieces):
    """A first stand that breaks the first piece that one breaks, or None."""
    stands = first_stands(machine)
    for place, spots in enumerate(pieces):
        for stand in stands:
            if not is_kept(spots, stand):
                return ("first", place, stand)
    return None


def later_fault(machine, literal, pieces):
    """The first step that leads out of the wall, else where the literal is 1 within it, else None."""
    broken = dict([(stand, first_broken(pieces, stand)) for stand in all_stands(machine)])
    inputs = all_inputs(machine)
    step = None
    never = None
    for stand in [stand for stand in broken if broken[stand] is None]:
        for told in inputs:
            values = values_at(machine, stand, told)
            place = broken[stand_behind(machine, values)]
            # The stands and inputs rise, so of one piece the first step that is met is due.
            if place is not None and (step is None or place < step[1]):
                step = ("step", place, stand, told)
            if never is None and value_of(values, literal) == 1:
                never = ("never", stand, told)
    return never if step is None else step


def first_broken(pieces, stand):
    """The number of the first piece that the stand breaks, or None."""
    for place, spots in enumerate(pieces):
        if not is_kept(spots, stand):
            return place
    return None


def wall_papers(machine, wish, wall):
    """(papers, last): a paper for each piece, and one that the wish's literal is never 1 within the wall."""
    for place, piece in enumerate(wall):
        if not is_kept_at_first(machine, piece):
            raise NoWall("first", place)
    numbers = Numbers(machine)
    clauses = wall_clauses(machine, wall)
    search = begun(numbers.many(), clauses)
    papers = []
    for place, piece in enumerate(wall):
        wants = wants_of(machine, piece)
        if are_at_odds(wants):
            papers.append(None)
        else:
            papers.append(paper_for(search, wants, "step", place))
        # What was learnt makes the next questions short, but the more it is the longer their papers get.
        if len(search.chains) > MOST_LEARNT:
            search = begun(numbers.many(), clauses)
    wants = [numbers.number(literal_of_wish(machine, wish))]
    return (papers, paper_for(search, wants, "never", 0))


def begun(many, clauses):
    """A search that has learnt nothing yet."""
    search = Search(many)
    search.take(clauses)
    return search


def paper_for(search, wants, word, place):
    """The paper that refutes the clauses with the wants; where there is none, what was handed in is no wall."""
    answer = answer_of(search, wants)
    if answer[0] == "yes":
        raise NoWall(word, place)
    return answer[1]
