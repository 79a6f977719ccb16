"""Rounds: a smaller machine, and to which of its literals each name of the machine goes."""

from everguard.machines import Machine
from everguard.machines import turned
from everguard.machinetext import bare_name


def carried(names, literal):
    """The literal that a literal goes to where the names go as they are told."""
    if literal in ("0", "1"):
        return literal
    goal = names[bare_name(literal)]
    return turned(goal) if literal.startswith("~") else goal


def round_of(machine, names, nevers, somes):
    """The round that leaves the names that go to themselves, and those wishes."""
    gates = []
    for name, one, other in machine.gates:
        if names[name] == name:
            gates.append((name, carried(names, one), carried(names, other)))
    left = [keeper for keeper in machine.keepers if names[keeper] == keeper]
    small = Machine(
        [name for name in machine.switches if names[name] == name],
        dict([(keeper, machine.keepers[keeper]) for keeper in left]),
        gates,
        literals_carried(names, dict([(keeper, machine.nexts[keeper]) for keeper in machine.nexts if keeper in left])),
        literals_carried(names, nevers),
        literals_carried(names, somes),
    )
    return (small, names)


def literals_carried(names, literals):
    """The dict with each of its literals carried."""
    return dict([(name, carried(names, literal)) for name, literal in literals.items()])
