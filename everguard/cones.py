"""The first way to a smaller machine: what a wish does not hang on is left out."""

from everguard.machines import literal_of_wish
from everguard.machines import names_of
from everguard.machines import next_of
from everguard.machinetext import bare_name
from everguard.rounds import round_of


def by_cone(machine, wish):
    """The round that leaves just what the wish hangs on, and no other wish."""
    needed = hung_on(machine, literal_of_wish(machine, wish))
    names = dict([(name, name if name in needed else None) for name in names_of(machine)])
    nevers = dict([(name, literal) for name, literal in machine.nevers.items() if name == wish])
    somes = dict([(name, literal) for name, literal in machine.somes.items() if name == wish])
    return round_of(machine, names, nevers, somes)


def hung_on(machine, literal):
    """A dict of the names on which the literal hangs, by gates and from step to step."""
    joined = dict([(name, (one, other)) for name, one, other in machine.gates])
    found = {}
    waiting = [literal]
    while len(waiting) > 0:
        name = bare_name(waiting.pop())
        if name not in found and name not in ("0", "1"):
            found[name] = True
            waiting.extend(joined.get(name, ()))
            if name in machine.keepers:
                waiting.append(next_of(machine, name))
    return found
