"""All stands that can be come to, gone through one by one."""

from everguard.machines import literal_of_wish
from everguard.running import all_inputs
from everguard.running import first_stands
from everguard.running import stand_behind
from everguard.running import value_of
from everguard.running import values_at


def plain_answer(machine, wish):
    """("row", first, row) with a shortest row to the wish's literal, or ("wall", stands)."""
    literal = literal_of_wish(machine, wish)
    inputs = all_inputs(machine)
    found = first_stands(machine)
    origins = {}
    for stand in found:
        origins[stand] = None
    place = 0
    # The stands are found in the order of how far they are, so the first row told is a shortest.
    while place < len(found):
        stand = found[place]
        for told in inputs:
            values = values_at(machine, stand, told)
            if value_of(values, literal) == 1:
                return ("row",) + way_to(origins, stand, told)
            behind = stand_behind(machine, values)
            if behind not in origins:
                origins[behind] = (stand, told)
                found.append(behind)
        place += 1
    return ("wall", sorted(found))


def way_to(origins, stand, told):
    """The first stand and the row by which the stand was found, with the last input behind it."""
    row = [told]
    while origins[stand] is not None:
        row.append(origins[stand][1])
        stand = origins[stand][0]
    row.reverse()
    return (stand, row)
