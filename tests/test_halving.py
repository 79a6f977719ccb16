"""[82], [83]: a machine's trees, the rings of stands that come to a wish, and the answers by them."""

import random
import unittest

from everguard.checking import wall_shown
from everguard.halving import ahead_of, halving_answer, order_of, rings_to, tree_of
from everguard.machines import Machine
from everguard.machinetext import read_machine
from everguard.rows import shortest_row
from everguard.running import comes_there
from everguard.trees import either, holds, put_for, some_of
from everguard.walls import wall_papers
from helper import (
    all_literals, bit_of, counter_machine, even_machine, fields, full_machine, great_machines, keeps_wall,
    knotted_machines, plain_tree, reckoned, reckoned_firsts, reckoned_step, shortest_count, small_machines, token_machine,
    tuples, wall_faults,
)

GUARD = "switch s\nkeep a 0\nkeep b 0\ngate g s a\nnext a s\nnext b g\nnever w b\nnever z 0\nnever n g\nnever o 1"


def counts_to(machine, literal):
    """From each stand from which a row comes to the literal to the inputs of a shortest, all gone through."""
    inputs = tuples(len(machine.switches))
    stands = tuples(len(machine.keepers))
    found = {}
    for stand in stands:
        if any(bit_of(reckoned(machine, stand, told), literal) for told in inputs):
            found[stand] = 1
    count = 1
    while count in found.values():
        for stand in stands:
            if stand not in found and any(found.get(reckoned_step(machine, stand, told)) == count for told in inputs):
                found[stand] = count + 1
        count += 1
    return found


def plain_rings(machine, wish):
    """The rings by going through all stands."""
    counts = counts_to(machine, machine.nevers[wish])
    longest = max(counts.values(), default=1)
    order = list(machine.keepers)
    return [plain_tree(order, {stand for stand in counts if counts[stand] <= k}) for k in range(1, longest + 1)]


class Examples(unittest.TestCase):
    def test_order(self):
        self.assertEqual(order_of(read_machine(GUARD)), ["a", "b", "s"])
        self.assertEqual(order_of(read_machine("keep b 1\nswitch s\nkeep a -\nswitch r")), ["b", "a", "s", "r"])
        self.assertEqual(order_of(read_machine("")), [])

    def test_trees_of_literals(self):
        machine = read_machine(GUARD)
        self.assertEqual(tree_of(machine, "g"), ("a", False, ("s", False, True)))
        self.assertEqual(tree_of(machine, "~g"), ("a", True, ("s", True, False)))
        self.assertEqual(tree_of(machine, "b"), ("b", False, True))
        self.assertEqual(tree_of(machine, "~s"), ("s", True, False))
        self.assertIs(tree_of(machine, "0"), False)
        self.assertIs(tree_of(machine, "1"), True)

    def test_a_gate_that_is_always_the_same(self):
        machine = read_machine("switch s\nkeep a 0\ngate g s ~s\ngate h ~g ~g\ngate i h a\ngate j i 1")
        self.assertIs(tree_of(machine, "g"), False)
        self.assertIs(tree_of(machine, "h"), True)
        self.assertEqual(tree_of(machine, "j"), ("a", False, True))

    def test_the_stands_ahead(self):
        machine = read_machine(GUARD)
        self.assertEqual(ahead_of(machine, ("b", False, True)), ("a", False, True))
        self.assertIs(ahead_of(machine, ("a", False, True)), True)
        self.assertIs(ahead_of(machine, ("b", True, False)), True)
        self.assertIs(ahead_of(machine, True), True)
        self.assertIs(ahead_of(machine, False), False)
        # b becomes 1 with a alone, and a with s alone.
        self.assertIs(ahead_of(machine, ("a", ("b", False, True), False)), False)

    def test_a_keeper_without_a_next_stays(self):
        machine = read_machine("keep a -\nkeep b 0\nnext b ~b")
        self.assertEqual(ahead_of(machine, ("a", False, True)), ("a", False, True))
        self.assertEqual(ahead_of(machine, ("a", False, ("b", False, True))), ("a", False, ("b", True, False)))

    def test_rings(self):
        machine = read_machine(GUARD)
        b = ("b", False, True)
        self.assertEqual(rings_to(machine, "w"), [b, ("a", b, True), True])
        self.assertEqual(rings_to(machine, "n"), [("a", False, True), True])
        self.assertEqual(rings_to(machine, "z"), [False])
        self.assertEqual(rings_to(machine, "o"), [True])

    def test_answers(self):
        machine = read_machine(GUARD)
        word, first, row = halving_answer(machine, "w")
        self.assertEqual((word, first, row[:2], len(row)), ("row", (0, 0), [(1,), (1,)], 3))
        self.assertEqual(halving_answer(machine, "z"), ("wall", []))
        word, first, row = halving_answer(machine, "o")
        self.assertEqual((word, first, len(row)), ("row", (0, 0), 1))

    def test_a_wall(self):
        machine = read_machine("switch s\nkeep a 0\nkeep b -\ngate g s a\nnext a g\nnext b s\nnever w g")
        self.assertEqual(halving_answer(machine, "w"), ("wall", [("~a",)]))

    def test_machines_without_keepers_or_switches(self):
        machine = read_machine("switch s\nnever w s\nnever z 0")
        self.assertEqual(rings_to(machine, "w"), [True])
        self.assertEqual(halving_answer(machine, "w"), ("row", (), [(1,)]))
        self.assertEqual(halving_answer(machine, "z"), ("wall", []))
        machine = read_machine("never w 1\nnever z 0")
        self.assertEqual((tree_of(machine, "1"), rings_to(machine, "z")), (True, [False]))
        self.assertEqual(halving_answer(machine, "w"), ("row", (), [()]))
        machine = read_machine("keep a 0\nkeep b -\nnext a b\nnever w a")
        self.assertEqual(rings_to(machine, "w"), [("a", False, True), ("a", ("b", False, True), True)])
        self.assertEqual(halving_answer(machine, "w"), ("row", (0, 1), [(), ()]))


class Halving(unittest.TestCase):
    def answer_fits(self, machine, wish, count):
        """A row is walked and as short as can be, a wall is one; count is the inputs of a shortest row, or None."""
        answer = halving_answer(machine, wish)
        self.assertIs(type(answer), tuple)
        if answer[0] == "row":
            self.assertEqual((len(answer), len(answer[2])), (3, count))
            self.assertIs(comes_there(machine, wish, answer[1], answer[2]), True)
        else:
            self.assertEqual((answer[0], len(answer), count), ("wall", 2, None))
            self.assertTrue(all(type(piece) is tuple for piece in answer[1]))
        return answer


class Chance(Halving):
    def test_trees_of_all_literals(self):
        for rng, machine, wish in small_machines(821, 40):
            order = order_of(machine)
            for literal in all_literals(machine):
                bits = set()
                for row in tuples(len(order)):
                    values = reckoned(machine, row[:len(machine.keepers)], row[len(machine.keepers):])
                    if bit_of(values, literal):
                        bits.add(row)
                self.assertEqual(tree_of(machine, literal), plain_tree(order, bits))

    def test_stands_ahead_of_drawn_trees(self):
        for rng, machine, wish in small_machines(822, 150):
            order = list(machine.keepers)
            goal = {stand for stand in tuples(len(order)) if rng.randrange(3) == 0}
            ahead = {
                stand for stand in tuples(len(order))
                if any(reckoned_step(machine, stand, told) in goal for told in tuples(len(machine.switches)))
            }
            self.assertEqual(ahead_of(machine, plain_tree(order, goal)), plain_tree(order, ahead))

    def test_rings_and_answers(self):
        met = {"row": 0, "wall": 0, "long": 0, "pieces": 0}
        for rng, machine, wish in list(small_machines(823, 200)) + list(knotted_machines(829, 150)):
            before = fields(machine)
            rings = rings_to(machine, wish)
            self.assertEqual(rings, plain_rings(machine, wish))
            answer = self.answer_fits(machine, wish, shortest_count(machine, wish))
            met[answer[0]] += 1
            met["long"] += answer[0] == "row" and len(answer[2]) > 3
            if answer[0] == "wall":
                self.assertEqual(wall_faults(machine, wish, answer[1]), [])
                met["pieces"] += len(answer[1]) > 1
                counts = counts_to(machine, machine.nevers[wish])
                for stand in tuples(len(machine.keepers)):
                    self.assertEqual(keeps_wall(machine, stand, answer[1]), stand not in counts)
            self.assertEqual(fields(machine), before)
        self.assertGreater(min(met.values()), 12, met)


class Great(Halving):
    def rings_fit(self, rng, machine, wish, rings):
        """A ring is the first one with the stands ahead of the one before, by the trees of [81]."""
        order = order_of(machine)
        nexts = {keeper: tree_of(machine, machine.nexts.get(keeper, keeper)) for keeper in machine.keepers}
        self.assertEqual(rings[0], some_of(order, tree_of(machine, machine.nevers[wish]), machine.switches))
        steps = list(zip(rings, rings[1:] + rings[-1:]))
        for ring, later in rng.sample(steps[:-1], min(5, len(steps) - 1)) + steps[-1:]:
            ahead = some_of(order, put_for(order, ring, nexts), machine.switches)
            self.assertEqual(ahead_of(machine, ring), ahead)
            self.assertEqual(either(order, rings[0], ahead), later)
        self.assertEqual(len(set(rings)), len(rings))

    def firsts_met(self, machine, rings):
        """The count of inputs of a shortest row from a first stand, by the rings, or None."""
        for count, ring in enumerate(rings, start=1):
            values = {name: first for name, first in machine.keepers.items() if first is not None}
            given = {name: bool(bit) for name, bit in values.items()}
            if put_for(order_of(machine), ring, given) is not False:
                return count
        return None

    def test_machines_of_twelve_switches_sixteen_keepers_sixty_gates(self):
        met = {"row": 0, "wall": 0, "long": 0, "pieces": 0}
        for switches, seed in ((12, 824), (1, 825)):
            for rng, machine in great_machines(seed, 36, switches):
                for literal in rng.sample(all_literals(machine), 8):
                    tree = tree_of(machine, literal)
                    for count in range(10):
                        stand = tuple(rng.randrange(2) for name in machine.keepers)
                        values = reckoned(machine, stand, tuple(rng.randrange(2) for name in machine.switches))
                        self.assertIs(holds(tree, values), bit_of(values, literal) == 1)
                for wish in machine.nevers:
                    rings = rings_to(machine, wish)
                    self.rings_fit(rng, machine, wish, rings)
                    answer = self.answer_fits(machine, wish, self.firsts_met(machine, rings))
                    met[answer[0]] += 1
                    met["long"] += answer[0] == "row" and len(answer[2]) > 4
                    if answer[0] == "wall":
                        self.wall_fits(rng, machine, wish, rings[-1], answer[1])
                        met["pieces"] += len(answer[1]) > 4
        self.assertGreater(min(met.values()), 3, met)

    def wall_fits(self, rng, machine, wish, last, wall):
        """The wall is one by its papers, and drawn stands keep it just where the last ring does not hold."""
        if len(wall) < 200:
            self.assertIs(wall_shown(machine, wish, wall, wall_papers(machine, wish, wall)), True)
        for count in range(60):
            stand = tuple(rng.randrange(2) for name in machine.keepers)
            # Most drawn stands lie far from the pieces, so some are put onto one.
            if wall and count % 2:
                values = dict(zip(machine.keepers, stand))
                values.update({part.lstrip("~"): int(part[0] == "~") for part in rng.choice(wall)})
                stand = tuple(values.values())
            kept = not holds(last, dict(zip(machine.keepers, stand)))
            self.assertEqual(keeps_wall(machine, stand, wall), kept)

    def test_the_first_rows_are_as_short_as_others(self):
        for rng, machine in great_machines(826, 12):
            for wish in machine.nevers:
                answer = halving_answer(machine, wish)
                other = shortest_row(machine, wish, 6)
                if answer[0] == "wall" or len(answer[2]) > 6:
                    self.assertEqual(other[0], "none")
                else:
                    self.assertEqual(len(answer[2]), len(other[2]))

    def test_machines_put_together(self):
        for count in (0, 1):
            machine = full_machine(count)
            self.assertEqual(halving_answer(machine, "unlike")[0], "wall")
            self.assertEqual(halving_answer(machine, "apart")[0], "row" if count else "wall")
        self.assertEqual(len(halving_answer(token_machine(16), "far")[2]), 16)
        word, wall = halving_answer(even_machine(8), "odd")
        self.assertEqual((word, len(set(wall))), ("wall", 128))

    def test_a_wall_that_just_the_right_stands_keep(self):
        # What is handed on round the ring stays as far apart as it is.
        machine = token_machine(16)
        word, wall = halving_answer(machine, "two")
        self.assertEqual(word, "wall")
        rng = random.Random(828)
        for count in range(200):
            stand = tuple(int(rng.randrange(4) == 0) for name in machine.keepers)
            beside = any(stand[place - 1] and stand[place] for place in range(16))
            self.assertEqual(keeps_wall(machine, stand, wall), not beside)

    def test_a_long_way(self):
        machine = counter_machine(12)
        self.assertEqual(len(rings_to(machine, "full")), 4096)
        word, first, row = halving_answer(machine, "full")
        self.assertEqual((word, first, len(row)), ("row", (0,) * 12, 4096))
        self.assertIs(comes_there(machine, "full", first, row), True)

    def test_a_sum_of_all_keepers(self):
        machine = even_machine(9)
        tree = tree_of(machine, machine.nevers["odd"])
        rng = random.Random(827)
        for count in range(50):
            values = {name: rng.randrange(2) for name in machine.keepers}
            self.assertIs(holds(tree, values), sum(values.values()) % 2 == 1)


class Own(Halving):
    def test_somewhat_beyond_the_bounds(self):
        keepers = {"k" + letter: 0 for letter in "abcdefghijklmnopqrst"}
        nexts = {one: other for one, other in zip(list(keepers)[1:], keepers)}
        switches = ["s" + letter for letter in "abcdefghijklmn"]
        machine = Machine(switches, keepers, [("g", "sa", "sn")], dict(nexts, ka="g"), {"w": "kt"}, {})
        self.assertEqual(len(rings_to(machine, "w")), 21)
        word, first, row = halving_answer(machine, "w")
        self.assertEqual((word, len(row)), ("row", 21))
        self.assertIs(comes_there(machine, "w", first, row), True)

    def test_first_stands_that_are_open(self):
        machine = read_machine("keep a -\nkeep b 1\nkeep c -\ngate g a b\ngate h g ~c\nnever w h")
        self.assertEqual(halving_answer(machine, "w"), ("row", (1, 1, 0), [()]))
        self.assertIn((1, 1, 0), reckoned_firsts(machine))


if __name__ == "__main__":
    unittest.main()
