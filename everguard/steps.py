"""A machine's runs of so many inputs as clauses."""

from everguard.machines import names_of
from everguard.machines import next_of
from everguard.numbers import gate_clauses


class Steps:
    """Variable 1 is the literal 1; behind it each step has one for each switch, keeper and gate.

    The clauses of fewer steps are the first of those of more.
    """

    def __init__(self, machine, many):
        self.count = many
        self.switches = list(machine.switches)
        self.keepers = dict(machine.keepers)
        self.gates = list(machine.gates)
        self.moves = [(keeper, next_of(machine, keeper)) for keeper in machine.keepers]
        self.offsets = dict([(name, offset) for offset, name in enumerate(names_of(machine), start=2)])

    def number(self, literal, k):
        """The literal's number at the step k; a turned one's has a minus."""
        if literal == "1":
            return 1
        if literal == "0":
            return -1
        if literal.startswith("~"):
            return -self.number(literal[1:], k)
        return self.offsets[literal] + k * len(self.offsets)

    def many(self):
        """How many variables there are."""
        return 1 + self.count * len(self.offsets)

    def clauses(self):
        """The clauses that are kept by the runs from the first stands."""
        told = self.first_clauses()
        for k in range(self.count):
            told.extend(self.clauses_of(k))
        return told

    def first_clauses(self):
        """The clauses of the literal 1 and of the first bits that are told."""
        told = [[1]]
        for keeper, first in self.keepers.items():
            if first is not None:
                number = self.number(keeper, 0)
                told.append([number if first == 1 else -number])
        return told

    def clauses_of(self, k):
        """The clauses of the gates at the step k, behind those of the step that leads there."""
        told = []
        if k > 0:
            for keeper, literal in self.moves:
                there = self.number(keeper, k)
                here = self.number(literal, k - 1)
                told.extend([[-there, here], [there, -here]])
        for name, one, other in self.gates:
            told.extend(gate_clauses(self.number(name, k), self.number(one, k), self.number(other, k)))
        return told

    def stand_at(self, choice, k):
        """The stand of a choice at the step k."""
        return tuple([choice[self.number(keeper, k) - 1] for keeper in self.keepers])

    def input_at(self, choice, k):
        """The input of a choice at the step k."""
        return tuple([choice[self.number(switch, k) - 1] for switch in self.switches])

    def run_of(self, choice):
        """The first stand and the row of a choice."""
        return (self.stand_at(choice, 0), [self.input_at(choice, k) for k in range(self.count)])
