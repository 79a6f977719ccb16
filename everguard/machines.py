"""Machines as values, and their literals."""


class Machine:
    """Switches, keepers, gates, nexts and wishes, each in the order of its rows."""

    def __init__(self, switches, keepers, gates, nexts, nevers, somes):
        self.switches = list(switches)
        self.keepers = dict(keepers)
        self.gates = list(gates)
        self.nexts = dict(nexts)
        self.nevers = dict(nevers)
        self.somes = dict(somes)


def turned(literal):
    """The literal that is 1 just where this one is 0."""
    if literal == "0":
        return "1"
    if literal == "1":
        return "0"
    if literal.startswith("~"):
        return literal[1:]
    return "~" + literal


def next_of(machine, keeper):
    """The literal that the keeper will be at the next step."""
    return machine.nexts.get(keeper, keeper)


def literal_of_wish(machine, wish):
    """The literal of a wish of either sort."""
    if wish in machine.nevers:
        return machine.nevers[wish]
    return machine.somes[wish]


def names_of(machine):
    """The names of all switches, keepers and gates, in that order."""
    return machine.switches + list(machine.keepers) + [gate[0] for gate in machine.gates]
