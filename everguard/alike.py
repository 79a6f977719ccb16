"""The third way to a smaller machine: gates and keepers that are seen to be alike go to one literal."""

from everguard.machines import next_of
from everguard.machines import turned
from everguard.rounds import carried
from everguard.rounds import round_of


def by_alike(machine):
    """The round in which what is seen to be alike goes to one literal.

    All keepers with the same first bit are taken to be alike till their nexts go to unlike literals; those whose first
    bit is open are alike to none.
    """
    heads = heads_by(machine, [(first, keeper if first is None else "") for keeper, first in machine.keepers.items()])
    while True:
        names = names_with(machine, heads)
        finer = heads_by(machine, [(heads[keeper], carried(names, next_of(machine, keeper))) for keeper in heads])
        if finer == heads:
            return round_of(machine, names, machine.nevers, machine.somes)
        heads = finer


def heads_by(machine, marks):
    """For each keeper the first one that has the same mark; the marks are told in the keepers' order."""
    firsts = {}
    return dict([(keeper, firsts.setdefault(mark, keeper)) for keeper, mark in zip(machine.keepers, marks)])


def names_with(machine, heads):
    """To which literal each name goes where the keepers go to their heads."""
    names = dict([(name, name) for name in machine.switches])
    names.update(heads)
    met = {}
    for name, one, other in machine.gates:
        names[name] = goal_of(name, carried(names, one), carried(names, other), met)
    return names


def goal_of(name, one, other, met):
    """The literal that a gate of two literals goes to; met has the first gate of each two."""
    if one == turned(other) or "0" in (one, other):
        return "0"
    if one == other or other == "1":
        return one
    if one == "1":
        return other
    return met.setdefault((min(one, other), max(one, other)), name)
