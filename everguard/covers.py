"""Covers: a tree told by few ways, none of which can be done without, each asking for few bits.

Trees are numbers here, as `Forest` has them; a way is a tuple of pairs (name, bit), the names in the forest's order.
"""


def pieces_beside(forest, number):
    """Pieces that are kept, all of them, just where the tree does not hold."""
    return [piece_against(way) for way in ways_between(forest, number, number)]


def piece_against(way):
    """The literals of which one is 1 just where not all of the way's bits are as it asks."""
    return tuple([name if bit == 0 else "~" + name for name, bit in way])


def ways_between(forest, least, most):
    """Ways that together are open wherever the least tree holds, and nowhere but where the most one does."""
    return covered(forest, least, most, {})[0]


def covered(forest, least, most, made):
    """(ways, tree): such ways, and the tree that holds where one of them is open; made has what was made already."""
    if least == 0:
        return ([], 0)
    if most == 1:
        return ([()], 1)
    if (least, most) not in made:
        made[(least, most)] = covered_by_halves(forest, least, most, made)
    return made[(least, most)]


def covered_by_halves(forest, least, most, made):
    """The same of trees that ask for a name."""
    spot = min(forest.nodes[least][0], forest.nodes[most][0])
    leasts = [forest.half(least, spot, side) for side in (1, 2)]
    mosts = [forest.half(most, spot, side) for side in (1, 2)]
    # What may be open in one half alone needs ways that ask for the name's bit.
    low = covered(forest, forest.chosen(mosts[1], 0, leasts[0]), mosts[0], made)
    high = covered(forest, forest.chosen(mosts[0], 0, leasts[1]), mosts[1], made)
    # What these leave over can be had by ways through both halves.
    rests = forest.chosen(forest.chosen(low[1], 0, leasts[0]), 1, forest.chosen(high[1], 0, leasts[1]))
    through = covered(forest, rests, forest.chosen(mosts[0], mosts[1], 0), made)
    name = forest.names[spot]
    ways = [((name, 0),) + way for way in low[0]] + [((name, 1),) + way for way in high[0]] + through[0]
    tree = forest.node(spot, forest.chosen(low[1], 1, through[1]), forest.chosen(high[1], 1, through[1]))
    return (ways, tree)
