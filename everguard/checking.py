"""A checker of walls by their papers: it walks the papers and searches nothing."""

from everguard.machines import literal_of_wish
from everguard.numbers import Numbers
from everguard.pieces import are_at_odds
from everguard.pieces import is_kept_at_first
from everguard.pieces import is_piece
from everguard.pieces import wall_clauses
from everguard.pieces import wants_of
from everguard.refuting import as_dicts
from everguard.refuting import refuted_by


def wall_shown(machine, wish, wall, papers):
    """Whether the papers show that it is a wall of the wish."""
    if len(papers[0]) != len(wall):
        return False
    if not all([is_piece(machine, piece) and is_kept_at_first(machine, piece) for piece in wall]):
        return False
    given = as_dicts(wall_clauses(machine, wall))
    for piece, paper in zip(wall, papers[0]):
        if not is_as_told(given, wants_of(machine, piece), paper):
            return False
    want = Numbers(machine).number(literal_of_wish(machine, wish))
    return refuted_by(given, [want], papers[1])


def is_as_told(given, wants, paper):
    """Whether the paper refutes the given clauses with the wants; where these are at odds there must be none."""
    if paper is None or are_at_odds(wants):
        return paper is None and are_at_odds(wants)
    return refuted_by(given, wants, paper)
