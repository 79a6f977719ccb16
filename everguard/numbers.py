"""A machine's one step as clauses."""

from everguard.machines import names_of


class Numbers:
    """Variables for all switches, keepers and gates, and behind them one for the literal 1."""

    def __init__(self, machine):
        self.gates_told = list(machine.gates)
        names = names_of(machine)
        self.variables = {}
        for name in names:
            self.variables[name] = len(self.variables) + 1
        self.always = len(names) + 1

    def number(self, literal):
        """The literal's number; a turned one's has a minus."""
        if literal == "1":
            return self.always
        if literal == "0":
            return -self.always
        if literal.startswith("~"):
            return -self.variables[literal[1:]]
        return self.variables[literal]

    def many(self):
        """How many variables there are."""
        return self.always

    def clauses(self):
        """The gates' clauses, in their order, and behind them the one of the literal 1."""
        told = []
        for name, one, other in self.gates_told:
            told.extend(gate_clauses(self.number(name), self.number(one), self.number(other)))
        told.append([self.always])
        return told


def gate_clauses(gate, one, other):
    """The clauses that say that the gate is 1 just where both numbers are so."""
    told = []
    for numbers in ([-gate, one], [-gate, other], [gate, -one, -other]):
        clause = each_once(numbers)
        if not any([-number in clause for number in clause]):
            told.append(clause)
    return told


def each_once(numbers):
    """The numbers in their order, none twice."""
    return list(dict([(number, True) for number in numbers]))
