"""Rings of steps: runs from any stand, through unlike stands, that come to the wish's literal with the last input."""

from everguard.machines import literal_of_wish
from everguard.refuting import refuted
from everguard.rows import Lengths
from everguard.rows import none_shown
from everguard.searching import Search
from everguard.solving import answer_of
from everguard.steps import Steps


def ring_answer(machine, wish, most):
    """("row", first, row) with a shortest row, ("ring", k, papers) with the least ring, or ("open",)."""
    lengths = Lengths(machine, wish)
    rows = []
    pairs = []
    for k in range(1, most + 1):
        answer = lengths.longer()
        if answer[0] == "row":
            return answer
        rows.append(answer[1])
        paper = ring_paper(machine, wish, k, pairs)
        if paper is not None:
            return ("ring", k, (rows, pairs, paper))
    return ("open",)


def ring_paper(machine, wish, k, pairs):
    """A paper of the ring of k steps, or None where there is none; further pairs are put behind the others.

    The stands at its two places must be unlike. Few pairs matter as a rule, so one is put there only once a run was met
    in which its stands are alike.
    """
    steps = Steps(machine, k + 1)
    search = Search(steps.many())
    search.take(way_clauses(steps, literal_of_wish(machine, wish), k))
    for place, pair in enumerate(pairs):
        take_pair(search, steps, place, pair)
    while True:
        answer = answer_of(search, [steps.number(literal_of_wish(machine, wish), k)])
        if answer[0] == "no":
            return answer[1]
        stands = [steps.stand_at(answer[1], place) for place in range(k + 1)]
        alike = alike_pairs(stands)
        if len(alike) == 0:
            return None
        for pair in alike:
            take_pair(search, steps, len(pairs), pair)
            pairs.append(pair)


def way_clauses(steps, literal, k):
    """The clauses of a run of k + 1 inputs from any stand, the literal 0 with all of them but the last."""
    told = [[steps.number("1", 0)]]
    for place in range(k + 1):
        told.extend(steps.clauses_of(place))
        if place < k:
            told.append([-steps.number(literal, place)])
    return told


def alike_pairs(stands):
    """Pairs of places, the lesser ahead, at which the stands are alike: of each stand the next place that has it."""
    latest = {}
    found = []
    for place, stand in enumerate(stands):
        if stand in latest:
            found.append((latest[stand], place))
        latest[stand] = place
    return found


def take_pair(search, steps, place, pair):
    """Let the search take the clauses of a pair, which is one of as many as the place tells."""
    search.widen(many_with(steps, place + 1))
    search.take(pair_clauses(steps, place, pair))


def many_with(steps, count):
    """How many variables there are with so many pairs: each keeper has one in each pair."""
    return steps.many() + count * len(steps.keepers)


def pair_clauses(steps, place, pair):
    """The clauses that a keeper is unlike at the pair's places: where its variable is so, it is."""
    variables = list(range(many_with(steps, place) + 1, many_with(steps, place + 1) + 1))
    told = [variables]
    for variable, keeper in zip(variables, steps.keepers):
        one = steps.number(keeper, pair[0])
        other = steps.number(keeper, pair[1])
        told.extend([[-variable, one, other], [-variable, -one, -other]])
    return told


def ring_shown(machine, wish, k, papers):
    """Whether the papers show that the wish has the ring of k steps and that no row of at most k inputs comes there."""
    if k < 1 or not has_form(papers):
        return False
    rows = papers[0]
    pairs = papers[1]
    if not all([0 <= pair[0] and pair[0] < pair[1] and pair[1] <= k for pair in pairs]):
        return False
    if not none_shown(machine, wish, k, rows):
        return False
    steps = Steps(machine, k + 1)
    literal = literal_of_wish(machine, wish)
    clauses = way_clauses(steps, literal, k)
    for place, pair in enumerate(pairs):
        clauses.extend(pair_clauses(steps, place, pair))
    return refuted(clauses, [steps.number(literal, k)], papers[2])


def has_form(papers):
    """Whether these are papers of rows, pairs and a paper, whatever their numbers are."""
    if not isinstance(papers, tuple) or len(papers) != 3:
        return False
    if not isinstance(papers[0], list) or not all([is_paper(paper) for paper in papers[0]]):
        return False
    if not isinstance(papers[1], list) or not all([is_numbers(pair, 2) for pair in papers[1]]):
        return False
    return is_paper(papers[2])


def is_paper(paper):
    """Whether this has the form of a paper."""
    if not isinstance(paper, tuple) or len(paper) != 2:
        return False
    if not isinstance(paper[0], list) or not isinstance(paper[1], int):
        return False
    return all([is_numbers(step, 3) for step in paper[0]])


def is_numbers(told, count):
    """Whether this is a tuple of so many numbers."""
    if not isinstance(told, tuple) or len(told) != count:
        return False
    return all([isinstance(number, int) for number in told])
