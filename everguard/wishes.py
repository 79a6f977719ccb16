"""All wishes of never of a machine, and one wall of several."""

from everguard.guarding import guarded
from everguard.halving import halving_answer
from everguard.reaching import reached_wall
from everguard.smaller import last_machine
from everguard.smaller import made_small
from everguard.smaller import row_back
from everguard.smaller import wall_back

FEW_PIECES = 40
MOST_HALVED = 20


def joined(walls):
    """All pieces of the walls, each once, in their order."""
    found = {}
    for wall in walls:
        for piece in wall:
            found[piece] = True
    return list(found)


def each_wish(machine):
    """A dict from each wish of never to ("row", first, row) or ("wall", wall)."""
    return dict([(wish, never_answer(machine, wish)) for wish in machine.nevers])


def wall_of_all(machine):
    """(names, wall): the wishes that can never come to be, and one wall of all of them."""
    found = each_wish(machine)
    names = [wish for wish in found if found[wish][0] == "wall"]
    return (names, joined([found[wish][1] for wish in names]))


def never_answer(machine, wish):
    """The answer to one wish, found in a smaller machine and carried back."""
    rounds = made_small(machine, wish)
    answer = small_answer(last_machine(machine, rounds), wish)
    if answer[0] == "row":
        return ("row",) + row_back(machine, rounds, answer[1], answer[2])
    return ("wall", wall_back(machine, rounds, answer[1]))


def small_answer(machine, wish):
    """A row, or a wall of as few pieces as are found."""
    if len(machine.keepers) > MOST_HALVED:
        # So great are shadows alone, and a wall of just the right stands has far too many pieces there.
        return guarded(machine, wish)[:-1]
    answer = halving_answer(machine, wish)
    if answer[0] == "row" or len(answer[1]) <= FEW_PIECES:
        return answer
    # Where few stands can be come to, a wall round these is told by fewer pieces.
    other = reached_wall(machine)
    return answer if len(answer[1]) <= len(other) else ("wall", other)
