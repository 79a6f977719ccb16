"""Pieces of walls: the stands that keep them, and their clauses and wants."""

from everguard.machines import next_of
from everguard.machines import turned
from everguard.machinetext import bare_name
from everguard.numbers import Numbers
from everguard.numbers import each_once


def is_piece(machine, literals):
    """Whether the texts are keepers' literals, in the keepers' order, none of a keeper twice."""
    places = dict([(keeper, place) for place, keeper in enumerate(machine.keepers)])
    latest = -1
    for literal in literals:
        place = places.get(bare_name(literal), -1)
        if place <= latest:
            return False
        latest = place
    return True


def spots_of(machine, piece):
    """For each literal of the piece the place of its keeper in a stand and the bit that it asks for there."""
    places = dict([(keeper, place) for place, keeper in enumerate(machine.keepers)])
    return [(places[bare_name(literal)], asked_bit(literal)) for literal in piece]


def asked_bit(literal):
    """The bit that a keeper has where its literal is 1."""
    return 0 if literal.startswith("~") else 1


def is_kept(spots, stand):
    """Whether the stand keeps the piece of these spots."""
    return any([stand[place] == bit for place, bit in spots])


def is_kept_at_first(machine, piece):
    """Whether one of the piece's literals is 1 in all first stands; where none is, one of these breaks the piece."""
    return any([machine.keepers[bare_name(literal)] == asked_bit(literal) for literal in piece])


def wall_clauses(machine, wall):
    """The clauses of the machine's one step, and behind them the pieces as clauses."""
    numbers = Numbers(machine)
    return numbers.clauses() + [[numbers.number(literal) for literal in piece] for piece in wall]


def wants_of(machine, piece):
    """The numbers that are so where the next stand breaks the piece, each once."""
    numbers = Numbers(machine)
    return each_once([-numbers.number(next_literal(machine, literal)) for literal in piece])


def next_literal(machine, literal):
    """What a keeper's literal will be at the next step."""
    ahead = next_of(machine, bare_name(literal))
    return turned(ahead) if literal.startswith("~") else ahead


def are_at_odds(wants):
    """Whether a want stands beside its turned one."""
    return any([-want in wants for want in wants])
