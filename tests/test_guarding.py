"""[61], [62]: walls found piece by piece, and what was learnt on the way."""

import copy
import random
import unittest

from everguard.guarding import guarded
from everguard.machines import Machine
from everguard.machinetext import read_machine
from everguard.numbers import Numbers
from everguard.running import comes_there
from everguard.walls import wall_papers
from helper import (
    bit_of, counter_machine, even_machine, fault_due, fields, full_machine, literal_at, piece_wants, reckoned,
    reckoned_step, refutes, rings, shortest_count, small_machines, some_machine, tangled_machine, token_machine,
)


class Guarding(unittest.TestCase):
    def fits(self, machine, wish):
        """The answer's form is right, each row walks, each piece is broken, and the answer is told again; the answer."""
        before = fields(machine)
        answer = guarded(machine, wish)
        self.assertIs(type(answer), tuple)
        learnt = answer[-1]
        self.assertIs(type(learnt), list)
        if answer[0] == "row":
            self.assertEqual(len(answer), 4)
            self.row_comes(machine, wish, answer[1], answer[2])
            self.assertIs(comes_there(machine, wish, answer[1], answer[2]), True)
        else:
            self.assertEqual((answer[0], len(answer)), ("wall", 3))
            self.assertIs(type(answer[1]), list)
            pieces = [piece for stand, row, level, piece in learnt]
            for piece in answer[1]:
                self.proper(machine, piece)
                self.assertIn(piece, pieces)
        for stand, row, level, piece in learnt:
            self.row_comes(machine, wish, stand, row)
            self.assertTrue(type(level) is int and level >= 0)
            self.proper(machine, piece)
            self.assertFalse(any(literal_at(machine, stand, literal) for literal in piece))
        self.assertEqual(guarded(machine, wish), answer)
        self.assertEqual(fields(machine), before)
        return answer

    def row_comes(self, machine, wish, stand, row):
        """The row, begun at the stand, comes to the wish's literal."""
        self.assertEqual((type(stand), len(stand)), (tuple, len(machine.keepers)))
        self.assertIs(type(row), list)
        self.assertGreater(len(row), 0)
        for told in row:
            self.assertEqual((type(told), len(told)), (tuple, len(machine.switches)))
        for told in row[:-1]:
            stand = reckoned_step(machine, stand, told)
        self.assertEqual(bit_of(reckoned(machine, stand, row[-1]), machine.nevers[wish]), 1)

    def proper(self, machine, piece):
        """A piece of [51]."""
        self.assertIs(type(piece), tuple)
        order = list(machine.keepers)
        places = [order.index(literal.lstrip("~")) for literal in piece]
        self.assertEqual(places, sorted(set(places)))
        self.assertTrue(all(literal.count("~") <= 1 for literal in piece))

    def levels_hold(self, machine, learnt):
        """All stands that can be come to by at most level steps keep the piece."""
        found = rings(machine)
        for stand, row, level, piece in learnt:
            for ring in found[: level + 1]:
                for other in ring:
                    self.assertTrue(any(literal_at(machine, other, literal) for literal in piece), (piece, other))

    def small(self, machine, wish):
        """A machine whose stands can be gone through; the answer."""
        answer = self.fits(machine, wish)
        wanted = shortest_count(machine, wish)
        self.assertEqual(answer[0], "wall" if wanted is None else "row")
        if answer[0] == "wall":
            self.assertIsNone(fault_due(machine, wish, answer[1]))
        self.levels_hold(machine, answer[-1])
        return answer

    def great(self, machine, wish):
        """A machine whose stands are too many: the wall is held against papers, walked here; the answer."""
        answer = self.fits(machine, wish)
        if answer[0] == "wall":
            wall = answer[1]
            for piece in wall:
                self.assertTrue(any(machine.keepers[lit.lstrip("~")] == (lit[0] != "~") for lit in piece), piece)
            papers, last = wall_papers(machine, wish, wall)
            numbers = Numbers(machine)
            clauses = numbers.clauses() + [[numbers.number(literal) for literal in piece] for piece in wall]
            for piece, paper in zip(wall, papers):
                wants = piece_wants(machine, piece)
                self.assertTrue(any(-want in wants for want in wants) if paper is None else refutes(clauses, wants, paper))
            self.assertTrue(refutes(clauses, [numbers.number(machine.nevers[wish])], last))
        self.drawn_runs_keep(machine, answer[-1])
        return answer

    def drawn_runs_keep(self, machine, learnt):
        """Runs that are drawn keep each learnt piece up to its level."""
        rng = random.Random(611)
        for count in range(12):
            stand = tuple(rng.randrange(2) if first is None else first for first in machine.keepers.values())
            for steps in range(8):
                for other, row, level, piece in learnt:
                    if level >= steps:
                        self.assertTrue(any(literal_at(machine, stand, literal) for literal in piece), piece)
                stand = reckoned_step(machine, stand, tuple(rng.randrange(2) for name in machine.switches))


class Examples(Guarding):
    def test_a_row_of_one_input(self):
        machine = read_machine("switch s\nkeep k 0\ngate g s ~k\nnever w g\nnever o 1\nnever n ~k")
        for wish in ("w", "o", "n"):
            answer = self.small(machine, wish)
            self.assertEqual((answer[0], answer[1]), ("row", (0,)))

    def test_what_can_never_be_whatever_the_stand(self):
        machine = read_machine("switch s\nkeep k -\ngate g s ~s\nnever z 0\nnever w g")
        for wish in ("z", "w"):
            self.assertEqual(self.small(machine, wish)[0], "wall")

    def test_machines_without_keepers_or_switches(self):
        machine = read_machine("switch s\nnever w s\nnever z 0")
        self.assertEqual(self.small(machine, "w")[:3], ("row", (), [(1,)]))
        self.assertEqual(self.small(machine, "z"), ("wall", [], []))
        machine = read_machine("never o 1\nnever z 0")
        self.assertEqual(self.small(machine, "o")[:3], ("row", (), [()]))
        self.assertEqual(self.small(machine, "z")[:2], ("wall", []))
        machine = read_machine("keep a 0\nkeep b 0\nnext a b\nnext b a\nnever w a")
        self.assertEqual(self.small(machine, "w")[0], "wall")

    def test_first_bits_that_may_be_either(self):
        machine = read_machine("keep a -\nkeep b 0\nkeep c 0\nnext b a\nnext c b\nnever w c\nnever v a")
        self.assertEqual(self.small(machine, "w")[0], "row")
        self.assertEqual(self.small(machine, "v")[0], "row")
        machine = read_machine("keep a -\nkeep b -\nkeep c 0\ngate g a ~a\ngate h g b\nnext c h\nnever w c")
        self.assertEqual(self.small(machine, "w")[0], "wall")

    def test_a_wall_of_several_pieces(self):
        machine = read_machine("switch s\nkeep a 0\nkeep b 0\nkeep c 0\ngate g s a\nnext a b\nnext b c\nnext c g\nnever w a")
        answer = self.small(machine, "w")
        self.assertEqual(answer[0], "wall")
        self.assertGreaterEqual(len(answer[1]), 3)

    def test_keepers_that_become_alike(self):
        machine = read_machine("switch s\nkeep a 0\nkeep b 0\nnext a s\nnext b s\ngate g a ~b\nnever w g")
        self.assertEqual(self.small(machine, "w")[0], "wall")

    def test_counts(self):
        for bits in (1, 2, 3, 4):
            answer = self.small(counter_machine(bits), "full")
            # Which row is not promised: the count may go round.
            self.assertEqual((answer[0], len(answer[2]) % 2 ** bits), ("row", 0))

    def test_sums_that_stay_even(self):
        for count in (2, 3, 4):
            answer = self.small(even_machine(count), "odd")
            self.assertEqual((answer[0], len(set(answer[1]))), ("wall", 2 ** (count - 1)))

    def test_a_token_that_is_handed_on(self):
        self.assertEqual(self.small(token_machine(5), "two")[0], "wall")
        self.assertEqual(self.small(token_machine(5), "far")[0], "row")


class Chance(Guarding):
    def test_drawn_machines(self):
        met = {"row": 0, "wall": 0, "pieces": 0, "late": 0}
        for rng, machine, wish in small_machines(612, 260):
            answer = self.small(machine, wish)
            met[answer[0]] += 1
            met["pieces"] += answer[0] == "wall" and len(answer[1]) > 0
            met["late"] += answer[0] == "row" and len(answer[2]) > 2
        self.assertGreater(min(met.values()), 12, met)

    def test_drawn_machines_of_six_keepers(self):
        rng = random.Random(613)
        met = {"row": 0, "wall": 0}
        for count in range(50):
            machine = tangled_machine(rng, rng.randint(0, 2), 6, 30)
            for wish in machine.nevers:
                met[self.small(machine, wish)[0]] += 1
        self.assertGreater(min(met.values()), 20, met)


class Great(Guarding):
    def test_drawn_machines_of_twelve_switches_sixteen_keepers_sixty_gates(self):
        rng = random.Random(614)
        met = {"row": 0, "wall": 0}
        for count in range(40):
            machine = (some_machine if count % 2 else tangled_machine)(rng, 12, 16, 60)
            for wish in machine.nevers:
                met[self.great(machine, wish)[0]] += 1
        self.assertGreater(min(met.values()), 15, met)

    def test_drawn_machines_of_few_switches(self):
        rng = random.Random(615)
        met = {"row": 0, "wall": 0, "pieces": 0}
        for count in range(30):
            machine = tangled_machine(rng, count % 3, 16, 60)
            for wish in machine.nevers:
                answer = self.great(machine, wish)
                met[answer[0]] += 1
                met["pieces"] += answer[0] == "wall" and len(answer[1]) > 3
        self.assertGreater(min(met.values()), 5, met)

    def test_pairs_that_stay_alike(self):
        for count in (0, 1):
            machine = full_machine(count)
            self.assertEqual((len(machine.switches), len(machine.keepers), len(machine.gates)), (12, 16, 60))
            self.assertEqual(self.great(machine, "unlike")[0], "wall")
            self.assertEqual(self.great(machine, "apart")[0], "row" if count else "wall")

    def test_sixteen_keepers_in_a_ring(self):
        machine = token_machine(16)
        self.assertEqual(self.great(machine, "two")[0], "wall")
        answer = self.great(machine, "far")
        self.assertEqual(answer[0], "row")
        self.assertGreaterEqual(len(answer[2]), 16)

    def test_a_long_way(self):
        answer = self.great(counter_machine(6), "full")
        self.assertEqual((answer[0], len(answer[2]) % 64), ("row", 0))

    def test_sixteen_keepers_that_count(self):
        machine = counter_machine(16)
        # The first keeper stays 0, so nothing is ever carried to the others.
        stuck = dict(machine.nexts, ka="ka")
        still = Machine([], machine.keepers, machine.gates, stuck, {"full": machine.nevers["full"], "b": "kb"}, {})
        self.assertEqual(self.great(still, "full")[0], "wall")
        self.assertEqual(self.great(still, "b")[0], "wall")

    def test_sums_of_six(self):
        answer = self.great(even_machine(6), "odd")
        self.assertEqual((answer[0], len(set(answer[1]))), ("wall", 32))


class Own(Guarding):
    def test_what_was_told_may_be_changed(self):
        for machine, wish in ((token_machine(5), "two"), (token_machine(4), "far"), (counter_machine(3), "full")):
            answer = guarded(machine, wish)
            wanted = copy.deepcopy(answer)
            for stand, row, level, piece in answer[-1]:
                row.append("spoilt")
            answer[-1].reverse()
            (answer[1] if answer[0] == "wall" else answer[2]).clear()
            self.assertEqual(guarded(machine, wish), wanted)

    def test_no_two_lists_are_one(self):
        for machine, wish in ((token_machine(5), "two"), (token_machine(5), "far"), (counter_machine(4), "full")):
            lists = []
            for count in range(2):
                answer = guarded(machine, wish)
                lists += [answer[-1], answer[1] if answer[0] == "wall" else answer[2]]
                lists += [row for stand, row, level, piece in answer[-1]]
            self.assertEqual(len({id(part) for part in lists}), len(lists))


if __name__ == "__main__":
    unittest.main()
