"""What several tests share: machines and walls made by a seed, and plain reckonings to hold answers against.

Nothing here asks the program for more than the classes Machine and Numbers: what it tells is reckoned anew.
"""

import itertools
import random

from everguard.machines import Machine
from everguard.numbers import Numbers

FIELDS = ("switches", "keepers", "gates", "nexts", "nevers", "somes")


def fields(machine):
    """All fields of a machine, dicts as lists of pairs, so that orders count."""
    told = [getattr(machine, name) for name in FIELDS]
    return [list(field.items()) if isinstance(field, dict) else list(field) for field in told]


def empty(machine):
    """Take all out of the fields of a machine that was told."""
    for name in FIELDS:
        getattr(machine, name).clear()


def names(count):
    """Unlike names, some of one letter, some of eight."""
    letters = "abcdefghijklmnopqrstuvwxyz"
    made = list(letters) + [a + b + "n" * (k % 7) for k, (a, b) in enumerate(itertools.product(letters, letters))]
    return made[:count]


def some_literal(rng, known):
    kind = rng.randrange(12)
    if kind < 2 or not known:
        return rng.choice(("0", "1"))
    return rng.choice(("", "~")) + rng.choice(known)


def some_machine(rng, switches, keepers, gates, wishes=4):
    """A machine of so many of each, as the generator has it."""
    given = names(switches + keepers + gates)
    rng.shuffle(given)
    switch_names = given[:switches]
    keeper_names = given[switches:switches + keepers]
    firsts = {name: rng.choice((0, 1, None)) for name in keeper_names}
    known = switch_names + keeper_names
    made = []
    for name in given[switches + keepers:]:
        made.append((name, some_literal(rng, known), some_literal(rng, known)))
        known.append(name)
    nexts = {}
    for name in rng.sample(keeper_names, len(keeper_names)):
        if rng.randrange(5):
            nexts[name] = some_literal(rng, known)
    wish_names = names(wishes)
    rng.shuffle(wish_names)
    nevers = {name: some_literal(rng, known) for name in wish_names[: wishes // 2]}
    somes = {name: some_literal(rng, known) for name in wish_names[wishes // 2:]}
    return Machine(switch_names, firsts, made, nexts, nevers, somes)


def tangled_machine(rng, switches, keepers, gates, wishes=4):
    """A machine whose keepers mostly become sums or choices of others, as far as the gates reach; wishes of never."""
    given = names(switches + keepers + gates)
    rng.shuffle(given)
    switch_names = given[:switches]
    keeper_names = given[switches:switches + keepers]
    free = given[switches + keepers:]
    known = switch_names + keeper_names
    made = []

    def drawn(pool):
        return rng.choice(("", "~")) + rng.choice(pool)

    def other(literal):
        return literal[1:] if literal[0] == "~" else "~" + literal

    def gate(one, two):
        made.append((free.pop(), one, two))
        known.append(made[-1][0])
        return made[-1][0]

    nexts = {}
    for name in keeper_names:
        kind = rng.randrange(6) if len(free) > 3 + wishes else 6
        one, two, three = (drawn(known) for _ in range(3))
        if kind < 3:
            nexts[name] = gate("~" + gate(one, two), "~" + gate(other(one), other(two)))
        elif kind == 3:
            nexts[name] = "~" + gate("~" + gate(three, one), "~" + gate(other(three), two))
        elif kind < 6:
            nexts[name] = gate(one, two)
        else:
            nexts[name] = one
    nevers = {}
    for name in names(wishes):
        nevers[name] = drawn(keeper_names)
        while free and rng.randrange(3):
            nevers[name] = gate(nevers[name], drawn(keeper_names))
    firsts = {name: rng.choice((0, 0, 0, 1, None)) for name in keeper_names}
    return Machine(switch_names, firsts, made, nexts, nevers, {})


def tuples(count):
    """All tuples of so many bits, rising."""
    return list(itertools.product((0, 1), repeat=count))


def bit_of(values, literal):
    if literal in ("0", "1"):
        return int(literal)
    return 1 - values[literal[1:]] if literal[0] == "~" else values[literal]


def reckoned(machine, stand, told):
    """The values of all names."""
    values = {}
    for name, bit in zip(machine.switches, told):
        values[name] = bit
    for name, bit in zip(list(machine.keepers), stand):
        values[name] = bit
    for name, one, other in machine.gates:
        values[name] = 1 if bit_of(values, one) == 1 and bit_of(values, other) == 1 else 0
    return values


def reckoned_step(machine, stand, told):
    values = reckoned(machine, stand, told)
    return tuple(bit_of(values, machine.nexts.get(name, name)) for name in machine.keepers)


def reckoned_firsts(machine):
    told = list(machine.keepers.values())
    return [s for s in tuples(len(told)) if all(a is None or a == b for a, b in zip(told, s))]


def wish_literal(machine, wish):
    return {**machine.nevers, **machine.somes}[wish]


def rings(machine):
    """The stands that can be come to: a list for each count of steps, of those first come to by it."""
    found = [reckoned_firsts(machine)]
    seen = set(found[0])
    while found[-1]:
        behind = {
            reckoned_step(machine, stand, told)
            for stand in found[-1]
            for told in tuples(len(machine.switches))
        }
        found.append(sorted(behind - seen))
        seen |= behind
    return found[:-1]


def shortest_count(machine, wish):
    """How many inputs a shortest row to the wish's literal has, or None."""
    literal = wish_literal(machine, wish)
    for count, stands in enumerate(rings(machine)):
        for stand in stands:
            for told in tuples(len(machine.switches)):
                if bit_of(reckoned(machine, stand, told), literal) == 1:
                    return count + 1
    return None


def keeps(choice, clause):
    """Whether the choice keeps the clause."""
    return any(choice[abs(number) - 1] == (1 if number > 0 else 0) for number in clause)


def choice_exists(many, clauses, wants):
    """Whether there is a choice, by going through all of them."""
    units = [[want] for want in wants]
    return any(all(keeps(choice, clause) for clause in clauses + units) for choice in tuples(many))


def some_clauses(rng, many, count, longest):
    """So many clauses as [31] has them."""
    made = []
    for _ in range(count):
        length = min(many, rng.randint(1, longest))
        made.append([rng.choice((1, -1)) * v for v in rng.sample(range(1, many + 1), length)])
    return made


def clause_of_paper(clauses, paper):
    """The paper's last clause, walked step by step, or None where a step is wrong."""
    steps, last = paper
    known = [frozenset(clause) for clause in clauses]
    for one, other, variable in steps:
        if not (0 <= one < len(known) and 0 <= other < len(known) and variable > 0):
            return None
        if variable not in known[one] or -variable not in known[other]:
            return None
        known.append((known[one] - {variable}) | (known[other] - {-variable}))
        if any(-number in known[-1] for number in known[-1]):
            return None
    return known[last] if 0 <= last < len(known) else None


def refutes(clauses, wants, paper):
    """Whether the paper's last clause has turned wants alone."""
    clause = clause_of_paper(clauses, paper)
    return clause is not None and all(-number in wants for number in clause)


def literal_at(machine, stand, literal):
    """A keeper's literal's bit at the stand."""
    return bit_of(dict(zip(machine.keepers, stand)), literal)


def keeps_wall(machine, stand, wall):
    """Whether the stand keeps all pieces."""
    return all(any(literal_at(machine, stand, literal) for literal in piece) for piece in wall)


def drawn_piece(rng, machine, count):
    """A piece of at most so many literals."""
    chosen = rng.sample(list(machine.keepers), min(count, len(machine.keepers)))
    return tuple(rng.choice(("", "~")) + name for name in machine.keepers if name in chosen)


def piece_against(machine, stand):
    """The piece that this stand alone breaks."""
    return tuple("~" + name if bit else name for name, bit in zip(machine.keepers, stand))


def tight_wall(machine):
    """The wall that is kept by just the stands that can be come to."""
    reached = {stand for ring in rings(machine) for stand in ring}
    return [piece_against(machine, stand) for stand in tuples(len(machine.keepers)) if stand not in reached]


FAULTS = ("first", "step", "never")


def wall_faults(machine, wish, wall):
    """All faults of a wall by the words of the document, each as it would be told."""
    def breaks(stand, piece):
        return not any(literal_at(machine, stand, literal) for literal in piece)

    found = []
    for number, piece in enumerate(wall):
        found += [("first", number, stand) for stand in reckoned_firsts(machine) if breaks(stand, piece)]
    for stand in tuples(len(machine.keepers)):
        if keeps_wall(machine, stand, wall):
            for told in tuples(len(machine.switches)):
                behind = reckoned_step(machine, stand, told)
                found += [("step", number, stand, told) for number, piece in enumerate(wall) if breaks(behind, piece)]
                if bit_of(reckoned(machine, stand, told), machine.nevers[wish]):
                    found.append(("never", stand, told))
    return found


def fault_due(machine, wish, wall):
    """The first fault that is due, or None."""
    found = wall_faults(machine, wish, wall)
    return min(found, key=lambda fault: (FAULTS.index(fault[0]),) + fault[1:]) if found else None


def piece_wants(machine, piece):
    """The numbers that are so where the piece is broken at the next step, as [53] tells them."""
    numbers = Numbers(machine)
    told = []
    for literal in piece:
        ahead = machine.nexts.get(literal.lstrip("~"), literal.lstrip("~"))
        told.append(numbers.number(ahead) if literal[0] == "~" else -numbers.number(ahead))
    return told


def some_wall(rng, machine):
    """A wall of some wishes, or what is nearly one, or something drawn."""
    kind = rng.randrange(4)
    wall = tight_wall(machine)
    rng.shuffle(wall)
    if kind == 0:
        return wall
    if kind == 1:
        wall = [tuple(part for part in piece if rng.randrange(4)) for piece in wall]
        return [piece for piece in wall if rng.randrange(3)]
    if kind == 2:
        return wall[: rng.randint(0, len(wall))] + [drawn_piece(rng, machine, 3)] * rng.randint(0, 2)
    return [drawn_piece(rng, machine, rng.randint(0, 3)) for count in range(rng.randint(0, 3))]


def small_machines(seed, count):
    """(rng, machine, wish) for each wish of never of drawn machines."""
    rng = random.Random(seed)
    for place in range(count):
        made = some_machine if place % 2 else tangled_machine
        machine = made(rng, rng.randint(0, 2), rng.randint(0 if place % 2 else 1, 4), rng.randint(4, 14))
        for wish in machine.nevers:
            yield rng, machine, wish


def drawers(things, places):
    """(many, clauses): each thing in a drawer, no two in one."""
    def number(thing, place):
        return thing * places + place + 1

    clauses = [[number(thing, place) for place in range(places)] for thing in range(things)]
    for place in range(places):
        for one, other in itertools.combinations(range(things), 2):
            clauses.append([-number(one, place), -number(other, place)])
    return things * places, clauses


def counter_machine(count):
    """A machine without switches whose keepers, all 0 at first, count up; `full` must never be all 1."""
    keepers = {"k" + chr(ord("a") + place): 0 for place in range(count)}
    gates = []
    nexts = {}
    carry = "1"
    for name in keepers:
        tail = name[1]
        gates.append(("c" + tail, name, carry))
        gates.append(("n" + tail, "~" + name, "~" + carry if carry != "1" else "0"))
        gates.append(("x" + tail, "~c" + tail, "~n" + tail))
        nexts[name] = "x" + tail
        carry = "c" + tail
    return Machine([], keepers, gates, nexts, {"full": carry}, {"half": carry})


class Builder:
    """Gates put together by a test: each call makes them and tells the literal."""

    def __init__(self):
        self.gates = []

    def both(self, one, other):
        place = len(self.gates)
        self.gates.append(("g" + chr(ord("a") + place // 26) + chr(ord("a") + place % 26), one, other))
        return self.gates[-1][0]

    def unlike(self, one, other):
        return self.both("~" + self.both(one, other), "~" + self.both(other_of(one), other_of(other)))


def other_of(literal):
    return literal[1:] if literal[0] == "~" else "~" + literal


def letters(ahead, count):
    return [ahead + chr(ord("a") + place) for place in range(count)]


def token_machine(count):
    """One of so many keepers is 1 at first, and a switch lets it be handed on round the ring; never two side by side."""
    named = letters("k", count)
    build = Builder()
    nexts = {}
    for place, name in enumerate(named):
        stays = build.both(name, "~go")
        comes = build.both(named[place - 1], "go")
        nexts[name] = "~" + build.both("~" + stays, "~" + comes)
    beside = build.both(named[0], named[1])
    firsts = {name: int(place == 0) for place, name in enumerate(named)}
    return Machine(["go"], firsts, build.gates, nexts, {"two": beside, "far": named[-1]}, {})


def even_machine(count):
    """Each switch turns two keepers that lie side by side; their sum must never be odd."""
    named, switches = letters("k", count), letters("s", count - 1)
    build = Builder()
    nexts = {}
    for place, name in enumerate(named):
        nexts[name] = name
        for beside in (place - 1, place):
            if 0 <= beside < len(switches):
                nexts[name] = build.unlike(nexts[name], switches[beside])
    total = named[0]
    for name in named[1:]:
        total = build.unlike(total, name)
    return Machine(switches, dict.fromkeys(named, 0), build.gates, nexts, {"odd": total}, {})


def full_machine(count):
    """Twelve switches, sixteen keepers, sixty gates: pairs of keepers that become alike, but for `count` of them."""
    switches = letters("s", 12)
    ones, others = letters("a", 8), letters("b", 8)
    build = Builder()
    nexts = {}
    for place, (one, other) in enumerate(zip(ones, others)):
        nexts[one] = build.unlike(one, switches[place])
        nexts[other] = nexts[one] if place >= count else build.unlike(nexts[one], build.both(one, switches[8 + place % 4]))
    unlike = build.both("~" + build.both(ones[7], others[7]), "~" + build.both("~" + ones[7], "~" + others[7]))
    apart = build.both(ones[0], "~" + others[0])
    while len(build.gates) < 60:
        build.both(build.gates[-1][0], switches[len(build.gates) % 12])
    firsts = dict.fromkeys(ones + others, 0)
    return Machine(switches, firsts, build.gates, nexts, {"unlike": unlike, "apart": apart}, {})


def plain_tree(order, bits):
    """The tree over the order of the set of tuples of bits, made by going through all of them."""
    if not order:
        return () in bits
    low = plain_tree(order[1:], {row[1:] for row in bits if row[0] == 0})
    high = plain_tree(order[1:], {row[1:] for row in bits if row[0] == 1})
    return low if low == high else (order[0], low, high)


def knotted_machine(rng, switches, keepers, gates):
    """A machine whose keepers become sums and choices of keepers and switches, and whose wishes ask for many keepers."""
    named, switch_names = letters("k", keepers), letters("s", switches)
    build = Builder()
    pool = named + switch_names
    style = rng.randrange(3)

    def drawn(known):
        return rng.choice(("", "~")) + rng.choice(known)

    nexts = {}
    for name in rng.sample(named, len(named)):
        kind = style if style < 2 else rng.randrange(2)
        if len(build.gates) + 4 + keepers > gates:
            nexts[name] = drawn(named)
        elif kind:
            nexts[name] = build.unlike(drawn(named), build.both(drawn(named), drawn(pool)))
        else:
            nexts[name] = rng.choice(("", "~")) + build.both(drawn(named), drawn(pool))
    asked = named[0]
    for name in rng.sample(named[1:], len(named[1:]) * 2 // 3):
        asked = build.both(asked, rng.choice(("", "~")) + name)
    while len(build.gates) < gates:
        build.both(drawn(pool), drawn(pool))
    firsts = {name: rng.choice((0, 0, 1)) if rng.randrange(12) else None for name in named}
    few = build.gates[-1][0]
    nevers = {"many": asked, "few": few}
    return Machine(switch_names, firsts, build.gates, nexts, nevers, {"all": other_of(asked), "one": few, "other": "~" + few})


def knotted_machines(seed, count):
    """(rng, machine, wish) for each wish of never of small knotted machines."""
    rng = random.Random(seed)
    for place in range(count):
        machine = knotted_machine(rng, rng.randint(0, 1), rng.randint(2, 5), rng.randint(12, 30))
        for wish in machine.nevers:
            yield rng, machine, wish


def great_machines(seed, count, switches=12):
    """(rng, machine) for drawn machines of sixteen keepers and sixty gates."""
    rng = random.Random(seed)
    for place in range(count):
        made = (some_machine, tangled_machine, knotted_machine)[place % 3]
        yield rng, made(rng, switches, 16, 60)


def all_names(machine):
    """All switches, keepers and gates, in that order."""
    return list(machine.switches) + list(machine.keepers) + [gate[0] for gate in machine.gates]


def all_literals(machine):
    """All literals that the machine may speak of."""
    return ["0", "1"] + [ahead + name for name in all_names(machine) for ahead in ("", "~")]


def goal_of(names, literal):
    """The literal that a literal goes to in a round with these names, or None."""
    if literal in ("0", "1"):
        return literal
    goal = names[literal.lstrip("~")]
    if goal is None or literal[0] != "~":
        return goal
    return {"0": "1", "1": "0"}.get(goal, other_of(goal))


def goals_through(machine, rounds):
    """From each name of the machine to the literal that it goes to through all rounds, or None."""
    goals = {name: name for name in all_names(machine)}
    for small, names in rounds:
        goals = {name: None if goal is None else goal_of(names, goal) for name, goal in goals.items()}
    return goals


def form_fault(machine, made):
    """What is wrong with a round by the words of [91] that speak of its form, or None."""
    small, names = made
    if list(names) != all_names(machine):
        return "names"
    left = [name for name in names if names[name] == name]
    if all_names(small) != left:
        return "what is left"
    if list(small.keepers.items()) != [(name, first) for name, first in machine.keepers.items() if name in left]:
        return "first bits"
    if any(names[name] not in (name, None) for name in machine.switches):
        return "switches"
    ends = ["0", "1", None] + [ahead + name for name in small.keepers for ahead in ("", "~")]
    if any(names[name] not in ends for name in machine.keepers):
        return "keepers"
    if any(goal is not None and goal not in all_literals(small) for goal in names.values()):
        return "goals"
    for wishes, fewer in ((machine.nevers, small.nevers), (machine.somes, small.somes)):
        if list(fewer) != [wish for wish in wishes if wish in fewer]:
            return "wishes"
        if any(fewer[wish] != goal_of(names, wishes[wish]) for wish in fewer):
            return "wishes' literals"
    return None


def left_bits(order, fewer, bits):
    """Of bits in one order those in the other, which is a part of it."""
    values = dict(zip(order, bits))
    return tuple(values[name] for name in fewer)


def goes_along(machine, made, stand, told):
    """Whether the round's machine has its values as the names go, and steps along, at the stand with the input."""
    small, names = made
    values = reckoned(machine, stand, told)
    here = left_bits(machine.keepers, small.keepers, stand)
    given = left_bits(machine.switches, small.switches, told)
    there = reckoned(small, here, given)
    if any(goal is not None and bit_of(there, goal) != values[name] for name, goal in names.items()):
        return False
    behind = left_bits(machine.keepers, small.keepers, reckoned_step(machine, stand, told))
    return behind == reckoned_step(small, here, given)


def round_fault(machine, made):
    """What is wrong with a round by the words of [91], all runs gone through both ways, or None.

    A run of the one settles that of the other by the bits of what is left. So it is enough that these go along at each
    stand that can be come to with each input, and that each first stand of the one is met by one of the other.
    """
    fault = form_fault(machine, made)
    if fault is not None:
        return fault
    small = made[0]
    met = {left_bits(machine.keepers, small.keepers, stand) for stand in reckoned_firsts(machine)}
    if met != set(reckoned_firsts(small)):
        return "first stands"
    for stand in [stand for ring in rings(machine) for stand in ring]:
        for told in tuples(len(machine.switches)):
            if not goes_along(machine, made, stand, told):
                return f"the stand {stand} with the input {told}"
    return None


def drawn_run_fault(rng, machine, made, count):
    """The same, but for a drawn run of so many inputs."""
    fault = form_fault(machine, made)
    stand = drawn_first(rng, machine)
    for place, told in enumerate(drawn_row(rng, machine, count)):
        if fault is None and not goes_along(machine, made, stand, told):
            fault = f"the input {place}"
        stand = reckoned_step(machine, stand, told)
    return fault


def is_idle(machine, made):
    """Whether each name and each wish goes to itself in the round."""
    small, names = made
    return fields(small) == fields(machine) and all(goal == name for name, goal in names.items())


def mixed_machines(seed, count):
    """(rng, machine) for small drawn machines, some of which have much that is settled or alike."""
    rng = random.Random(seed)
    for place in range(count):
        made = (some_machine, tangled_machine, twofold_machine)[place % 3]
        yield rng, made(rng, rng.randint(0, 2), rng.randint(1, 4), rng.randint(4, 14))


def twofold_machine(rng, switches, keepers, gates):
    """A drawn machine in which much stands twice, more or less: a gate again with its literals changed over, and so on."""
    plain = some_machine(rng, switches, max(1, keepers // 2), max(1, gates // 2))
    second = {name: name + "z" for name in plain.keepers}
    second.update({gate[0]: gate[0] + "z" for gate in plain.gates})

    def again(literal):
        name = literal.lstrip("~")
        if name not in second or not rng.randrange(8):
            return literal
        return literal[: -len(name)] + second[name]

    firsts = dict(plain.keepers)
    firsts.update({second[name]: first for name, first in plain.keepers.items()})
    made = []
    for name, one, other in plain.gates:
        pair = [again(one), again(other)]
        rng.shuffle(pair)
        made += [(name, one, other), (second[name], pair[0], pair[1])]
    nexts = dict(plain.nexts)
    nexts.update({second[name]: again(literal) for name, literal in plain.nexts.items()})
    nevers = {"same": plain.gates[-1][0], "second": second[plain.gates[-1][0]]}
    return Machine(plain.switches, firsts, made, nexts, nevers, {"some": "~" + second[plain.gates[-1][0]]})


def endless_stands(machine, wish):
    """The stands from which there is an endless run with the wish's literal always 0, all stands gone through."""
    inputs = tuples(len(machine.switches))
    literal = wish_literal(machine, wish)
    calm = {
        stand: [reckoned_step(machine, stand, told) for told in inputs if not bit_of(reckoned(machine, stand, told), literal)]
        for stand in tuples(len(machine.keepers))
    }
    left = set(calm)
    while True:
        fewer = {stand for stand in left if any(behind in left for behind in calm[stand])}
        if fewer == left:
            return left
        left = fewer


def fails(machine, wish):
    """Whether there is an endless run from a first stand with the wish's literal always 0."""
    return bool(endless_stands(machine, wish) & set(reckoned_firsts(machine)))


def lasso_fits(machine, wish, first, row, at):
    """Whether this is a lasso, by the words of [111]."""
    told = list(machine.keepers.values())
    if not 0 <= at < len(row) or any(a is not None and a != b for a, b in zip(told, first)):
        return False
    stands = [first]
    for given in row:
        if bit_of(reckoned(machine, stands[-1], given), wish_literal(machine, wish)):
            return False
        stands.append(reckoned_step(machine, stands[-1], given))
    return stands[-1] == stands[at]


def row_fits(machine, wish, first, row):
    """Whether the row begins at a first stand and comes to the wish's literal."""
    told = list(machine.keepers.values())
    if any(a is not None and a != b for a, b in zip(told, first)):
        return False
    for given in row[:-1]:
        first = reckoned_step(machine, first, given)
    return bit_of(reckoned(machine, first, row[-1]), wish_literal(machine, wish)) == 1


def is_proper_piece(machine, piece):
    """Whether it is a piece of [51]."""
    order = list(machine.keepers)
    bare = [literal[1:] if literal[:1] == "~" else literal for literal in piece]
    if type(piece) is not tuple or any(name not in order for name in bare):
        return False
    places = [order.index(name) for name in bare]
    return places == sorted(set(places))


def drawn_input(rng, machine):
    return tuple(rng.randrange(2) for name in machine.switches)


def drawn_first(rng, machine):
    return tuple(rng.randrange(2) if first is None else first for first in machine.keepers.values())


def drawn_row(rng, machine, count):
    return [drawn_input(rng, machine) for place in range(count)]


def read_back(told):
    """The answers of a text that is known to be well written: tuples (wish, word, ..) with tuples of bits and pieces."""
    def bits(word):
        return tuple(int(sign) for sign in word.replace("-", ""))

    found = []
    for row in told.split("\n"):
        words = row.split()
        if not words:
            continue
        if words[0] == "wall":
            found.append((words[1], "wall", []))
        elif words[0] in ("row", "lasso"):
            found.append((words[1], words[0], bits(words[2]), []) + tuple(int(at) for at in words[3:]))
        elif words[0] == "piece":
            found[-1][2].append(tuple(words[1:]))
        else:
            found[-1][3].append(bits(words[1]))
    return found
