"""The second way to a smaller machine: what has one bit in all runs goes to it, as far as open bits tell.

A bit is 0, 1, or None where it is open.
"""

from everguard.machines import names_of
from everguard.machines import next_of
from everguard.machinetext import bare_name
from everguard.rounds import round_of


def by_settled(machine):
    """The round in which keepers and gates that have a bit at last go to it."""
    bits = dict(machine.keepers)
    while True:
        values = values_with(machine, bits)
        opened = [keeper for keeper in bits if is_opened(machine, values, keeper)]
        if len(opened) == 0:
            break
        for keeper in opened:
            bits[keeper] = None
    names = dict([(name, name if values[name] is None else str(values[name])) for name in names_of(machine)])
    return round_of(machine, names, machine.nevers, machine.somes)


def is_opened(machine, values, keeper):
    """Whether the keeper has a bit and a step may lead to another."""
    return values[keeper] is not None and bit_of(values, next_of(machine, keeper)) != values[keeper]


def values_with(machine, bits):
    """The bits of all names where the keepers have these and the switches are open."""
    values = dict([(name, None) for name in machine.switches])
    values.update(bits)
    for name, one, other in machine.gates:
        values[name] = lesser_bit(bit_of(values, one), bit_of(values, other))
    return values


def bit_of(values, literal):
    """The literal's bit."""
    if literal in ("0", "1"):
        return int(literal)
    bit = values[bare_name(literal)]
    if bit is not None and literal.startswith("~"):
        return 1 - bit
    return bit


def lesser_bit(one, other):
    """0 where one of two bits is, 1 where both are, else open."""
    if one == 0 or other == 0:
        return 0
    if one == 1 and other == 1:
        return 1
    return None
