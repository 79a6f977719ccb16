"""A machine's literals as trees of one forest, and the steps between trees of stands.

Trees are numbers here, as `Forest` has them: trees of stands, over the keepers, and trees of moves, over the keepers
and the switches, each move being a stand with an input.
"""

from everguard.machines import next_of
from everguard.machinetext import bare_name
from everguard.trees import Forest


class Grove:
    """A forest in which the machine's literals are planted as they are asked for; the order has the switches last."""

    def __init__(self, machine, order):
        self.machine = machine
        self.forest = Forest(order)
        self.planted = {"0": 0, "1": 1}
        for name in list(machine.keepers) + machine.switches:
            self.planted[name] = self.forest.leaf_of(name)
        self.inputs = dict([(name, True) for name in machine.switches])
        self.nexts = {}
        # What was made already of parts of trees, by the nexts and without the switches.
        self.made_into = {}
        self.made_without = {}

    def number_of(self, literal):
        """The literal's tree."""
        self.plant(literal)
        number = self.planted[bare_name(literal)]
        return self.opposite_of(number) if literal.startswith("~") else number

    def plant(self, literal):
        """Plant the gates that the literal needs, the earlier ones first."""
        if bare_name(literal) in self.planted:
            return
        needed = {bare_name(literal): True}
        for name, one, other in reversed(self.machine.gates):
            if name in needed:
                needed.update({bare_name(one): True, bare_name(other): True})
        for name, one, other in self.machine.gates:
            if name in needed and name not in self.planted:
                self.planted[name] = self.both_of(self.number_of(one), self.number_of(other))

    def opposite_of(self, number):
        """Where the tree does not hold."""
        return self.forest.chosen(number, 0, 1)

    def both_of(self, one, other):
        """Where both trees hold."""
        return self.forest.chosen(one, other, 0)

    def either_of(self, one, other):
        """Where one of the trees holds, or both do."""
        return self.forest.chosen(one, 1, other)

    def first_stands(self):
        """The tree of the first stands."""
        number = 1
        for keeper, first in self.machine.keepers.items():
            if first is not None:
                number = self.both_of(number, self.number_of(keeper if first == 1 else "~" + keeper))
        return number

    def next_number(self, keeper):
        """The tree of what the keeper will be."""
        return self.number_of(next_of(self.machine, keeper))

    def moves_into(self, number):
        """The moves that lead into a tree of stands."""
        for keeper in self.forest.names_in(number):
            if keeper not in self.nexts:
                self.nexts[keeper] = self.next_number(keeper)
        return self.forest.replaced(number, self.nexts, self.made_into)

    def stands_of(self, number):
        """The stands at which a tree of moves has one."""
        return self.forest.without(number, self.inputs, self.made_without)

    def stand_in(self, number):
        """A stand of a tree of stands, which must have one."""
        bits = self.forest.way_in(number, {})
        return tuple([bits.get(keeper, 0) for keeper in self.machine.keepers])

    def input_in(self, number, stand):
        """An input that is a move of the tree at the stand; there must be one."""
        bits = self.forest.way_in(number, dict(zip(self.machine.keepers, stand)))
        return tuple([bits.get(switch, 0) for switch in self.machine.switches])
