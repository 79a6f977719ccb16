"""Halving: the stands from which a row comes to a wish's literal, as halved trees."""

from everguard.covers import pieces_beside
from everguard.groves import Grove
from everguard.running import stepped


def order_of(machine):
    """The names over which a machine's trees are: the keepers, then the switches."""
    return list(machine.keepers) + machine.switches


def tree_of(machine, literal):
    """The literal's tree."""
    grove = Grove(machine, order_of(machine))
    return grove.forest.tree_at(grove.number_of(literal))


def ahead_of(machine, tree):
    """The tree of the stands from which some input leads into a tree of keepers."""
    grove = Grove(machine, order_of(machine))
    moves = grove.moves_into(grove.forest.taken(tree))
    return grove.forest.tree_at(grove.stands_of(moves))


def rings_to(machine, wish):
    """The trees of the stands from which a row of at most 1, 2, 3 .. inputs comes to the wish's literal."""
    rings = Rings(machine, wish)
    while rings.grown():
        pass
    return [rings.grove.forest.tree_at(number) for number in rings.found]


def halving_answer(machine, wish):
    """("row", first, row) with a shortest row, or ("wall", wall) kept by just the stands from which no row comes."""
    rings = Rings(machine, wish)
    while True:
        first = rings.first_there()
        if first is not None:
            return ("row", first, rings.row_from(first))
        if not rings.grown():
            return ("wall", pieces_beside(rings.grove.forest, rings.found[-1]))


class Rings:
    """The stands from which a row of at most so many inputs comes to the wish's literal, for more and more inputs."""

    def __init__(self, machine, wish):
        self.machine = machine
        self.grove = Grove(machine, order_of(machine))
        self.firsts = self.grove.first_stands()
        # For each count of inputs the moves that begin such a row of just as many.
        self.moves = [self.grove.number_of(machine.nevers[wish])]
        self.found = [self.grove.stands_of(self.moves[0])]
        # The stands that the last ring has and no earlier one.
        self.latest = self.found[0]

    def grown(self):
        """Find the next ring; whether it is another one."""
        grove = self.grove
        moves = grove.moves_into(self.latest)
        latest = grove.both_of(grove.stands_of(moves), grove.opposite_of(self.found[-1]))
        if latest == 0:
            return False
        self.latest = latest
        self.moves.append(moves)
        self.found.append(grove.either_of(self.found[-1], latest))
        return True

    def first_there(self):
        """A first stand that the last ring has and no earlier one, or None."""
        number = self.grove.both_of(self.firsts, self.latest)
        return None if number == 0 else self.grove.stand_in(number)

    def row_from(self, stand):
        """A shortest row from a stand that the last ring has and no earlier one."""
        row = []
        for moves in reversed(self.moves):
            row.append(self.grove.input_in(moves, stand))
            stand = stepped(self.machine, stand, row[-1])
        return row
