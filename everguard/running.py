"""The plain machine: its values, its steps and its runs."""

from everguard.machines import literal_of_wish
from everguard.machines import next_of


def values_at(machine, stand, told):
    """A dict from all switches, keepers and gates, in that order, to their bits."""
    values = dict(zip(machine.switches, told))
    values.update(dict(zip(machine.keepers, stand)))
    for name, one, other in machine.gates:
        values[name] = value_of(values, one) * value_of(values, other)
    return values


def value_of(values, literal):
    """The literal's bit."""
    if literal == "0":
        return 0
    if literal == "1":
        return 1
    if literal.startswith("~"):
        return 1 - values[literal[1:]]
    return values[literal]


def stepped(machine, stand, told):
    """The next stand."""
    return stand_behind(machine, values_at(machine, stand, told))


def stand_behind(machine, values):
    """The stand that the machine goes to from where it has these values."""
    return tuple([value_of(values, next_of(machine, keeper)) for keeper in machine.keepers])


def walked(machine, first, row):
    """The stands at which the row's inputs are told; the last input leads to none."""
    stands = [first]
    for told in row[:-1]:
        stands.append(stepped(machine, stands[-1], told))
    return stands


def is_first(machine, stand):
    """Whether a run may begin at the stand."""
    firsts = list(machine.keepers.values())
    return all([first is None or first == bit for first, bit in zip(firsts, stand)])


def comes_there(machine, wish, first, row):
    """Whether the run begins at a first stand and ends where the wish's literal is 1."""
    if not is_first(machine, first):
        return False
    last = walked(machine, first, row)[-1]
    values = values_at(machine, last, row[-1])
    return value_of(values, literal_of_wish(machine, wish)) == 1


def first_stands(machine):
    """All first stands, rising."""
    return rising_bits(list(machine.keepers.values()))


def all_stands(machine):
    """All stands, rising."""
    return rising_bits([None] * len(machine.keepers))


def all_inputs(machine):
    """All inputs, rising."""
    return rising_bits([None] * len(machine.switches))


def rising_bits(firsts):
    """All tuples that have each bit as it is told, either one where it is None; rising."""
    rows = [()]
    for first in firsts:
        bits = (0, 1) if first is None else (first,)
        longer = []
        for row in rows:
            longer.extend([row + (bit,) for bit in bits])
        rows = longer
    return rows
