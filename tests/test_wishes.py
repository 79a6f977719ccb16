"""[101]: walls joined, an answer for each wish of never, and one wall of all that can never come to be."""

import copy
import random
import unittest

from everguard.checking import wall_shown
from everguard.halving import halving_answer
from everguard.machinetext import read_machine
from everguard.someday import shadow
from everguard.walls import wall_papers
from everguard.wishes import each_wish, joined, wall_of_all
from helper import (
    counter_machine, even_machine, fields, great_machines, is_proper_piece, knotted_machine, knotted_machines,
    mixed_machines, row_fits, shortest_count, token_machine, wall_faults,
)

GUARD = "switch s\nkeep a 0\nkeep b 1\nkeep c 0\nkeep d -\ngate g s a\nnext a g\nnext b ~a\nnext c s\n" \
    "never w g\nnever v c\nsome u a\nnever x ~b\nnever d d"


class Examples(unittest.TestCase):
    def test_joined(self):
        one, other = [("a",), ("~b", "c")], [("~c",), ("a",), ()]
        self.assertEqual(joined([one, other]), [("a",), ("~b", "c"), ("~c",), ()])
        self.assertEqual(joined([other, one]), [("~c",), ("a",), (), ("~b", "c")])
        self.assertEqual(joined([[("a",), ("b",), ("a",)]]), [("a",), ("b",)])
        self.assertEqual(joined([[("a", "b")], [("a", "~b")], [("a", "b")]]), [("a", "b"), ("a", "~b")])
        self.assertEqual(joined([]), [])
        self.assertEqual(joined([[], []]), [])
        self.assertEqual((one, other), ([("a",), ("~b", "c")], [("~c",), ("a",), ()]))
        self.assertIsNot(joined([one]), one)

    def test_each_wish(self):
        machine = read_machine(GUARD)
        told = each_wish(machine)
        self.assertEqual([(wish, answer[0]) for wish, answer in told.items()],
                         [("w", "wall"), ("v", "row"), ("x", "wall"), ("d", "row")])
        self.assertEqual(told["v"][:1] + told["v"][1][:3] + (told["v"][2][0],), ("row", 0, 1, 0, (1,)))
        self.assertEqual((told["d"][1], len(told["d"][2])), ((0, 1, 0, 1), 1))
        for wish in ("w", "x"):
            self.assertEqual(wall_faults(machine, wish, told[wish][1]), [])

    def test_wall_of_all(self):
        machine = read_machine(GUARD)
        names, wall = wall_of_all(machine)
        self.assertEqual(names, ["w", "x"])
        self.assertEqual(wall_faults(machine, "w", wall) + wall_faults(machine, "x", wall), [])

    def test_none(self):
        for text in ("", "switch s\nkeep a 0\nsome w a", "switch s\nnever w s\nnever v 1"):
            self.assertEqual(wall_of_all(read_machine(text)), ([], []))
        self.assertEqual(each_wish(read_machine("switch s\nkeep a 0\nsome w a")), {})

    def test_a_wish_that_hangs_on_nothing(self):
        machine = read_machine("switch s\nkeep a -\nnext a s\nnever w 0\nnever v 1")
        told = each_wish(machine)
        self.assertEqual(told["w"], ("wall", []))
        self.assertEqual((told["v"][0], len(told["v"][2])), ("row", 1))
        self.assertTrue(row_fits(machine, "v", told["v"][1], told["v"][2]))


class Wishing(unittest.TestCase):
    def form_fits(self, machine):
        before = fields(machine)
        told = each_wish(machine)
        self.assertIs(type(told), dict)
        self.assertEqual(list(told), list(machine.nevers))
        for wish, answer in told.items():
            if answer[0] == "row":
                self.assertEqual((len(answer), type(answer[2])), (3, list))
                self.assertTrue(row_fits(machine, wish, answer[1], answer[2]))
            else:
                self.assertEqual((answer[0], len(answer), type(answer[1])), ("wall", 2, list))
                self.assertTrue(all(is_proper_piece(machine, piece) for piece in answer[1]))
        all_of_them = wall_of_all(machine)
        self.assertIs(type(all_of_them), tuple)
        names, wall = all_of_them
        self.assertEqual(names, [wish for wish in told if told[wish][0] == "wall"])
        self.assertEqual(len(set(wall)), len(wall))
        self.assertEqual((each_wish(machine), wall_of_all(machine)), (told, (names, wall)))
        self.assertEqual(fields(machine), before)
        return told, names, wall


class Chance(Wishing):
    def test_drawn_machines(self):
        met = {"row": 0, "wall": 0, "several": 0}
        machines = [machine for rng, machine in mixed_machines(1011, 240)]
        machines += [machine for rng, machine, wish in knotted_machines(1012, 60) if wish == "many"]
        for machine in machines:
            told, names, wall = self.form_fits(machine)
            for wish, answer in told.items():
                self.assertEqual(answer[0] == "wall", shortest_count(machine, wish) is None)
                if answer[0] == "wall":
                    self.assertEqual(wall_faults(machine, wish, answer[1]), [])
                    self.assertEqual(wall_faults(machine, wish, wall), [])
                met[answer[0]] += 1
            met["several"] += len(names) > 1 and len(wall) > 1
        self.assertGreater(min(met.values()), 20, met)

    def test_what_was_told_may_be_changed(self):
        for rng, machine in mixed_machines(1013, 30):
            wanted = copy.deepcopy((each_wish(machine), wall_of_all(machine)))
            told = each_wish(machine)
            for answer in told.values():
                answer[-1].append("spoilt")
            told.clear()
            for part in wall_of_all(machine):
                part.append("spoilt")
            self.assertEqual((each_wish(machine), wall_of_all(machine)), wanted)


    def test_machines_of_which_few_stands_can_be_come_to(self):
        fewer = 0
        rng = random.Random(1017)
        for count in range(6):
            machine = knotted_machine(rng, 0, 10, 60)
            told, names, wall = self.form_fits(machine)
            for wish in names:
                self.assertEqual(wall_faults(machine, wish, told[wish][1]), [])
                fewer += len(told[wish][1]) < len(halving_answer(machine, wish)[1])
        self.assertGreater(fewer, 0)


class Great(Wishing):
    def test_machines_of_twelve_switches_sixteen_keepers_sixty_gates(self):
        met = {"row": 0, "wall": 0, "pieces": 0}
        for switches, seed in ((12, 1014), (2, 1015), (0, 1016)):
            for rng, machine in great_machines(seed, 24, switches):
                told, names, wall = self.form_fits(machine)
                for wish, answer in told.items():
                    met[answer[0]] += 1
                    if answer[0] == "wall" and len(answer[1]) < 200:
                        papers = wall_papers(machine, wish, answer[1])
                        self.assertIs(wall_shown(machine, wish, answer[1], papers), True)
                        met["pieces"] += len(answer[1]) > 4
                if names and len(wall) < 200:
                    papers = wall_papers(machine, names[-1], wall)
                    self.assertIs(wall_shown(machine, names[-1], wall, papers), True)
        self.assertGreater(min(met.values()), 5, met)

    def test_machines_greater_than_may_be_handed_in(self):
        met = {"row": 0, "wall": 0}
        rng = random.Random(1018)
        for count in range(6):
            machine = knotted_machine(rng, 3, 12, 48)
            for wish in machine.somes:
                shade = shadow(machine, wish)
                answer = each_wish(shade)[wish]
                if answer[0] == "row":
                    self.assertTrue(row_fits(shade, wish, answer[1], answer[2]))
                else:
                    self.assertIs(wall_shown(shade, wish, answer[1], wall_papers(shade, wish, answer[1])), True)
                self.assertEqual(len(answer), 3 if answer[0] == "row" else 2)
                met[answer[0]] += len(shade.keepers) > 20
        self.assertGreater(min(met.values()), 1, met)

    def test_machines_put_together(self):
        told = each_wish(token_machine(16))
        self.assertEqual((told["two"][0], told["far"][0], len(told["far"][2])), ("wall", "row", 16))
        self.assertEqual(wall_of_all(token_machine(16))[0], ["two"])
        self.assertEqual(wall_of_all(even_machine(7))[0], ["odd"])
        self.assertEqual(len(each_wish(counter_machine(10))["full"][2]), 1024)


if __name__ == "__main__":
    unittest.main()
