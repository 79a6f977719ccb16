"""What several tests share: machines and walls made by a seed, and plain reckonings to hold answers against.

Nothing here asks the program for more than the classes Machine and Numbers: what it tells is reckoned anew.
"""

import itertools
import random

from everguard.machines import Machine
from everguard.numbers import Numbers

FIELDS = ("switches", "keepers", "gates", "nexts", "nevers", "somes")


def fields(machine):
    """All fields of a machine, dicts as lists of pairs, so that orders count."""
    told = [getattr(machine, name) for name in FIELDS]
    return [list(field.items()) if isinstance(field, dict) else list(field) for field in told]


def names(count):
    """Unlike names, some of one letter, some of eight."""
    letters = "abcdefghijklmnopqrstuvwxyz"
    made = list(letters) + [a + b + "n" * (k % 7) for k, (a, b) in enumerate(itertools.product(letters, letters))]
    return made[:count]


def some_literal(rng, known):
    kind = rng.randrange(12)
    if kind < 2 or not known:
        return rng.choice(("0", "1"))
    return rng.choice(("", "~")) + rng.choice(known)


def some_machine(rng, switches, keepers, gates, wishes=4):
    """A machine of so many of each, as the generator has it."""
    given = names(switches + keepers + gates)
    rng.shuffle(given)
    switch_names = given[:switches]
    keeper_names = given[switches:switches + keepers]
    firsts = {name: rng.choice((0, 1, None)) for name in keeper_names}
    known = switch_names + keeper_names
    made = []
    for name in given[switches + keepers:]:
        made.append((name, some_literal(rng, known), some_literal(rng, known)))
        known.append(name)
    nexts = {}
    for name in rng.sample(keeper_names, len(keeper_names)):
        if rng.randrange(5):
            nexts[name] = some_literal(rng, known)
    wish_names = names(wishes)
    rng.shuffle(wish_names)
    nevers = {name: some_literal(rng, known) for name in wish_names[: wishes // 2]}
    somes = {name: some_literal(rng, known) for name in wish_names[wishes // 2:]}
    return Machine(switch_names, firsts, made, nexts, nevers, somes)


def tangled_machine(rng, switches, keepers, gates, wishes=4):
    """A machine whose keepers mostly become sums or choices of others, as far as the gates reach; wishes of never."""
    given = names(switches + keepers + gates)
    rng.shuffle(given)
    switch_names = given[:switches]
    keeper_names = given[switches:switches + keepers]
    free = given[switches + keepers:]
    known = switch_names + keeper_names
    made = []

    def drawn(pool):
        return rng.choice(("", "~")) + rng.choice(pool)

    def other(literal):
        return literal[1:] if literal[0] == "~" else "~" + literal

    def gate(one, two):
        made.append((free.pop(), one, two))
        known.append(made[-1][0])
        return made[-1][0]

    nexts = {}
    for name in keeper_names:
        kind = rng.randrange(6) if len(free) > 3 + wishes else 6
        one, two, three = (drawn(known) for _ in range(3))
        if kind < 3:
            nexts[name] = gate("~" + gate(one, two), "~" + gate(other(one), other(two)))
        elif kind == 3:
            nexts[name] = "~" + gate("~" + gate(three, one), "~" + gate(other(three), two))
        elif kind < 6:
            nexts[name] = gate(one, two)
        else:
            nexts[name] = one
    nevers = {}
    for name in names(wishes):
        nevers[name] = drawn(keeper_names)
        while free and rng.randrange(3):
            nevers[name] = gate(nevers[name], drawn(keeper_names))
    firsts = {name: rng.choice((0, 0, 0, 1, None)) for name in keeper_names}
    return Machine(switch_names, firsts, made, nexts, nevers, {})


def tuples(count):
    """All tuples of so many bits, rising."""
    return list(itertools.product((0, 1), repeat=count))


def bit_of(values, literal):
    if literal in ("0", "1"):
        return int(literal)
    return 1 - values[literal[1:]] if literal[0] == "~" else values[literal]


def reckoned(machine, stand, told):
    """The values of all names."""
    values = {}
    for name, bit in zip(machine.switches, told):
        values[name] = bit
    for name, bit in zip(list(machine.keepers), stand):
        values[name] = bit
    for name, one, other in machine.gates:
        values[name] = 1 if bit_of(values, one) == 1 and bit_of(values, other) == 1 else 0
    return values


def reckoned_step(machine, stand, told):
    values = reckoned(machine, stand, told)
    return tuple(bit_of(values, machine.nexts.get(name, name)) for name in machine.keepers)


def reckoned_firsts(machine):
    told = list(machine.keepers.values())
    return [s for s in tuples(len(told)) if all(a is None or a == b for a, b in zip(told, s))]


def wish_literal(machine, wish):
    return {**machine.nevers, **machine.somes}[wish]


def rings(machine):
    """The stands that can be come to: a list for each count of steps, of those first come to by it."""
    found = [reckoned_firsts(machine)]
    seen = set(found[0])
    while found[-1]:
        behind = {
            reckoned_step(machine, stand, told)
            for stand in found[-1]
            for told in tuples(len(machine.switches))
        }
        found.append(sorted(behind - seen))
        seen |= behind
    return found[:-1]


def shortest_count(machine, wish):
    """How many inputs a shortest row to the wish's literal has, or None."""
    literal = wish_literal(machine, wish)
    for count, stands in enumerate(rings(machine)):
        for stand in stands:
            for told in tuples(len(machine.switches)):
                if bit_of(reckoned(machine, stand, told), literal) == 1:
                    return count + 1
    return None


def keeps(choice, clause):
    """Whether the choice keeps the clause."""
    return any(choice[abs(number) - 1] == (1 if number > 0 else 0) for number in clause)


def choice_exists(many, clauses, wants):
    """Whether there is a choice, by going through all of them."""
    units = [[want] for want in wants]
    return any(all(keeps(choice, clause) for clause in clauses + units) for choice in tuples(many))


def some_clauses(rng, many, count, longest):
    """So many clauses as [31] has them."""
    made = []
    for _ in range(count):
        length = min(many, rng.randint(1, longest))
        made.append([rng.choice((1, -1)) * v for v in rng.sample(range(1, many + 1), length)])
    return made


def clause_of_paper(clauses, paper):
    """The paper's last clause, walked step by step, or None where a step is wrong."""
    steps, last = paper
    known = [frozenset(clause) for clause in clauses]
    for one, other, variable in steps:
        if not (0 <= one < len(known) and 0 <= other < len(known) and variable > 0):
            return None
        if variable not in known[one] or -variable not in known[other]:
            return None
        known.append((known[one] - {variable}) | (known[other] - {-variable}))
        if any(-number in known[-1] for number in known[-1]):
            return None
    return known[last] if 0 <= last < len(known) else None


def refutes(clauses, wants, paper):
    """Whether the paper's last clause has turned wants alone."""
    clause = clause_of_paper(clauses, paper)
    return clause is not None and all(-number in wants for number in clause)


def literal_at(machine, stand, literal):
    """A keeper's literal's bit at the stand."""
    return bit_of(dict(zip(machine.keepers, stand)), literal)


def keeps_wall(machine, stand, wall):
    """Whether the stand keeps all pieces."""
    return all(any(literal_at(machine, stand, literal) for literal in piece) for piece in wall)


def drawn_piece(rng, machine, count):
    """A piece of at most so many literals."""
    chosen = rng.sample(list(machine.keepers), min(count, len(machine.keepers)))
    return tuple(rng.choice(("", "~")) + name for name in machine.keepers if name in chosen)


def piece_against(machine, stand):
    """The piece that this stand alone breaks."""
    return tuple("~" + name if bit else name for name, bit in zip(machine.keepers, stand))


def tight_wall(machine):
    """The wall that is kept by just the stands that can be come to."""
    reached = {stand for ring in rings(machine) for stand in ring}
    return [piece_against(machine, stand) for stand in tuples(len(machine.keepers)) if stand not in reached]


FAULTS = ("first", "step", "never")


def wall_faults(machine, wish, wall):
    """All faults of a wall by the words of the document, each as it would be told."""
    def breaks(stand, piece):
        return not any(literal_at(machine, stand, literal) for literal in piece)

    found = []
    for number, piece in enumerate(wall):
        found += [("first", number, stand) for stand in reckoned_firsts(machine) if breaks(stand, piece)]
    for stand in tuples(len(machine.keepers)):
        if keeps_wall(machine, stand, wall):
            for told in tuples(len(machine.switches)):
                behind = reckoned_step(machine, stand, told)
                found += [("step", number, stand, told) for number, piece in enumerate(wall) if breaks(behind, piece)]
                if bit_of(reckoned(machine, stand, told), machine.nevers[wish]):
                    found.append(("never", stand, told))
    return found


def fault_due(machine, wish, wall):
    """The first fault that is due, or None."""
    found = wall_faults(machine, wish, wall)
    return min(found, key=lambda fault: (FAULTS.index(fault[0]),) + fault[1:]) if found else None


def piece_wants(machine, piece):
    """The numbers that are so where the piece is broken at the next step, as [53] tells them."""
    numbers = Numbers(machine)
    told = []
    for literal in piece:
        ahead = machine.nexts.get(literal.lstrip("~"), literal.lstrip("~"))
        told.append(numbers.number(ahead) if literal[0] == "~" else -numbers.number(ahead))
    return told


def some_wall(rng, machine):
    """A wall of some wishes, or what is nearly one, or something drawn."""
    kind = rng.randrange(4)
    wall = tight_wall(machine)
    rng.shuffle(wall)
    if kind == 0:
        return wall
    if kind == 1:
        wall = [tuple(part for part in piece if rng.randrange(4)) for piece in wall]
        return [piece for piece in wall if rng.randrange(3)]
    if kind == 2:
        return wall[: rng.randint(0, len(wall))] + [drawn_piece(rng, machine, 3)] * rng.randint(0, 2)
    return [drawn_piece(rng, machine, rng.randint(0, 3)) for count in range(rng.randint(0, 3))]


def small_machines(seed, count):
    """(rng, machine, wish) for each wish of never of drawn machines."""
    rng = random.Random(seed)
    for place in range(count):
        made = some_machine if place % 2 else tangled_machine
        machine = made(rng, rng.randint(0, 2), rng.randint(0 if place % 2 else 1, 4), rng.randint(4, 14))
        for wish in machine.nevers:
            yield rng, machine, wish


def drawers(things, places):
    """(many, clauses): each thing in a drawer, no two in one."""
    def number(thing, place):
        return thing * places + place + 1

    clauses = [[number(thing, place) for place in range(places)] for thing in range(things)]
    for place in range(places):
        for one, other in itertools.combinations(range(things), 2):
            clauses.append([-number(one, place), -number(other, place)])
    return things * places, clauses


def counter_machine(count):
    """A machine without switches whose keepers, all 0 at first, count up; `full` must never be all 1."""
    keepers = {"k" + chr(ord("a") + place): 0 for place in range(count)}
    gates = []
    nexts = {}
    carry = "1"
    for name in keepers:
        tail = name[1]
        gates.append(("c" + tail, name, carry))
        gates.append(("n" + tail, "~" + name, "~" + carry if carry != "1" else "0"))
        gates.append(("x" + tail, "~c" + tail, "~n" + tail))
        nexts[name] = "x" + tail
        carry = "c" + tail
    return Machine([], keepers, gates, nexts, {"full": carry}, {"half": carry})
