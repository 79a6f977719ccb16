"""Wishes of some: lassos at which they fail, and shadows whose walls show that they don't."""

from everguard.calm import Calm
from everguard.machines import literal_of_wish
from everguard.machines import turned
from everguard.machinetext import bare_name
from everguard.reaching import twin_of
from everguard.rounds import carried
from everguard.running import is_first
from everguard.running import stepped
from everguard.running import value_of
from everguard.running import values_at
from everguard.running import walked
from everguard.shadows import Shadow
from everguard.smaller import last_machine
from everguard.smaller import made_small
from everguard.smaller import row_back
from everguard.smaller import wall_back


def lasso_walks(machine, wish, first, row, at):
    """Whether the run begins at a first stand, comes back to the place at, and has the wish's literal always 0."""
    if at < 0 or at >= len(row) or not is_first(machine, first):
        return False
    literal = literal_of_wish(machine, wish)
    stands = walked(machine, first, row)
    if stepped(machine, stands[-1], row[-1]) != stands[at]:
        return False
    return all([value_of(values_at(machine, stand, told), literal) == 0 for stand, told in zip(stands, row)])


def shadow(machine, wish):
    """A machine with one wish of never that can come to be just where the wish fails."""
    return shadow_by(machine, wish, made_small(machine, wish)).machine


def shadow_by(machine, wish, rounds):
    """The shadow that copies the keepers which the rounds leave: on these alone hangs how the literal goes on."""
    return Shadow(machine, wish, last_machine(machine, rounds).keepers)


def some_answer(machine, wish):
    """("lasso", first, row, at), or ("wall", wall) with a wall of the shadow."""
    rounds = made_small(machine, wish)
    calm = Calm(last_machine(machine, rounds), wish)
    first = calm.first_endless()
    if first is not None:
        return ("lasso",) + lasso_from(machine, rounds, calm, first)
    pieces = shadow_pieces(calm, shadow_by(machine, wish, rounds))
    return ("wall", wall_back(machine, rounds, pieces))


def lasso_from(machine, rounds, calm, first):
    """(first, row, at): the machine's calm run that goes on as the smaller one does till it comes back to a stand."""
    kept = last_machine(machine, rounds).keepers
    start = row_back(machine, rounds, first, [])[0]
    places = {}
    row = []
    stand = start
    while stand not in places:
        places[stand] = len(row)
        bits = dict(zip(machine.keepers, stand))
        told = calm.endless_input(tuple([bits[keeper] for keeper in kept]))
        row.extend(row_back(machine, rounds, first, [told])[1])
        stand = stepped(machine, stand, row[-1])
    return (start, row, places[stand])


def shadow_pieces(calm, shade):
    """Pieces of the shadow: till the literal is seen, calm stands alone are come to, and never a copied one again."""
    names = dict([(twin_of(keeper), copy) for keeper, copy in shade.copies.items()])
    tail = (turned(shade.copied), shade.seen)
    reached = calm.reached()
    found = []
    for piece in calm.reached_pieces(reached):
        found.append(piece + (shade.seen,))
        found.append(renamed(piece, shade.copies) + tail)
    for piece in calm.falling_pieces(reached):
        here = tuple([literal for literal in piece if bare_name(literal) not in names])
        there = tuple([literal for literal in piece if bare_name(literal) in names])
        found.append(here + renamed(there, names) + tail)
    return found


def renamed(piece, names):
    """The piece with other names for its own."""
    return tuple([carried(names, literal) for literal in piece])
