"""[51], [52], [53]: walls held against all stands, their papers, and the refusal of what is no wall."""

import copy
import random
import unittest

from everguard.errors import BadMachine, GuardError, NoWall
from everguard.machinetext import read_machine
from everguard.machines import Machine
from everguard.numbers import Numbers
from everguard.walls import wall_fault, wall_papers
from helper import (
    counter_machine, fields, fault_due, piece_wants, refutes, shortest_count, small_machines, some_machine, some_wall,
    tight_wall,
)

TOGGLE = "switch s\nkeep a 0\nkeep b 0\ngate p s ~a\ngate q ~s a\ngate u ~p ~q\nnext a ~u\nnext b a\n"


class Faults(unittest.TestCase):
    def test_walls(self):
        machine = read_machine("switch s\nkeep a 0\nkeep b 1\ngate g s a\nnext a g\nnext b ~a\nnever w g\nnever z 0")
        self.assertIsNone(wall_fault(machine, "w", [("~a",)]))
        self.assertIsNone(wall_fault(machine, "w", [("~a",), ("b",)]))
        self.assertIsNone(wall_fault(machine, "w", [("~a", "b"), ("~a",)]))
        self.assertIsNone(wall_fault(machine, "w", [("~a",), ("~a",)]))
        self.assertIsNone(wall_fault(machine, "z", []))

    def test_a_first_stand_that_breaks_a_piece(self):
        machine = read_machine("keep a -\nkeep b 0\nkeep c -\nnever w 1\nnext a ~a")
        self.assertEqual(wall_fault(machine, "w", [("a",)]), ("first", 0, (0, 0, 0)))
        self.assertEqual(wall_fault(machine, "w", [("~b",), ("~a", "~c")]), ("first", 1, (1, 0, 1)))
        self.assertEqual(wall_fault(machine, "w", [("~b",), ("~a", "c"), ("a",)]), ("first", 1, (1, 0, 0)))
        self.assertEqual(wall_fault(machine, "w", [("~b",), ()]), ("first", 1, (0, 0, 0)))

    def test_a_step_that_leads_out(self):
        machine = read_machine(TOGGLE + "never w b\nnever z 0\nnever o 1")
        for wish in ("w", "z", "o"):
            self.assertEqual(wall_fault(machine, wish, [("~b",)]), ("step", 0, (1, 0), (0,)))
            self.assertEqual(wall_fault(machine, wish, [("~a",)]), ("step", 0, (0, 0), (1,)))
            # Of several the lesser piece comes first, though its stand is the greater one.
            self.assertEqual(wall_fault(machine, wish, [("~a", "~b"), ("~b",)]), ("step", 0, (1, 0), (0,)))
        self.assertEqual(wall_fault(machine, "w", [("~a", "~b"), ("a", "~b")]), ("step", 0, (1, 0), (0,)))

    def test_the_wish_within_the_wall(self):
        machine = read_machine("switch s\nswitch t\nkeep a 0\ngate g s ~a\nnever w g\nnever o 1\nnever z 0")
        self.assertEqual(wall_fault(machine, "w", []), ("never", (0,), (1, 0)))
        self.assertEqual(wall_fault(machine, "o", []), ("never", (0,), (0, 0)))
        self.assertEqual(wall_fault(machine, "w", [("~a",)]), ("never", (0,), (1, 0)))
        self.assertIsNone(wall_fault(machine, "z", [("~a",)]))

    def test_stands_that_break_a_piece_do_not_matter(self):
        machine = read_machine("keep a 0\nkeep b 0\nnext b a\nnever w b\nnever v a")
        self.assertIsNone(wall_fault(machine, "v", [("~a",)]))
        self.assertIsNone(wall_fault(machine, "w", [("~a",), ("~b",)]))
        self.assertEqual(wall_fault(machine, "w", [("~b",)]), ("step", 0, (1, 0), ()))
        self.assertEqual(wall_fault(machine, "w", [("~a",)]), ("never", (0, 1), ()))

    def test_machines_without_keepers(self):
        machine = read_machine("switch s\nnever w s\nnever z 0")
        self.assertEqual(wall_fault(machine, "w", []), ("never", (), (1,)))
        self.assertIsNone(wall_fault(machine, "z", []))
        self.assertEqual(wall_fault(machine, "z", [()]), ("first", 0, ()))

    def test_drawn_walls(self):
        met = {}
        for rng, machine, wish in small_machines(521, 160):
            for count in range(5):
                wall = some_wall(rng, machine)
                handed = (copy.deepcopy(wall), fields(machine))
                told = wall_fault(machine, wish, wall)
                self.assertEqual(told, fault_due(machine, wish, wall), (wall, fields(machine)))
                self.assertEqual((wall, fields(machine)), handed)
                met[told and told[0]] = met.get(told and told[0], 0) + 1
        self.assertEqual(set(met), {None, "first", "step", "never"})
        self.assertGreater(min(met.values()), 60, met)

    def test_as_great_as_all_stands_are_gone_through(self):
        machine = some_machine(random.Random(522), 4, 8, 30)
        wish = list(machine.nevers)[0]
        wall = tight_wall(machine)
        wanted = shortest_count(machine, wish)
        told = wall_fault(machine, wish, wall)
        self.assertEqual(told is None, wanted is None)
        machine = counter_machine(8)
        self.assertEqual(wall_fault(machine, "full", []), ("never", (1,) * 8, ()))
        self.assertEqual(wall_fault(machine, "full", [("~kh",)]), ("step", 0, (1,) * 7 + (0,), ()))


class Papers(unittest.TestCase):
    def right(self, machine, wish, wall, told):
        """Each paper is walked step by step."""
        self.assertIs(type(told), tuple)
        papers, last = told
        self.assertIs(type(papers), list)
        self.assertEqual(len(papers), len(wall))
        numbers = Numbers(machine)
        clauses = numbers.clauses() + [[numbers.number(literal) for literal in piece] for piece in wall]
        for piece, paper in zip(wall, papers):
            wants = piece_wants(machine, piece)
            if any(-want in wants for want in wants):
                self.assertIsNone(paper)
            else:
                self.assertTrue(refutes(clauses, wants, paper), piece)
        self.assertTrue(refutes(clauses, [numbers.number(machine.nevers[wish])], last))

    def no_wall(self, machine, wish, wall, word, place):
        with self.assertRaises(NoWall) as caught:
            wall_papers(machine, wish, wall)
        self.assertEqual((caught.exception.word, caught.exception.place), (word, place))
        self.assertIs(type(caught.exception.place), int)
        self.assertIsInstance(caught.exception, GuardError)
        self.assertNotIsInstance(caught.exception, BadMachine)

    def test_walls(self):
        machine = read_machine("switch s\nkeep a 0\nkeep b 1\ngate g s a\nnext a g\nnext b ~a\nnever w g\nnever z 0")
        for wish, wall in (("w", [("~a",)]), ("w", [("~a",), ("b",)]), ("w", [("~a",), ("~a",)]), ("z", [])):
            self.right(machine, wish, wall, wall_papers(machine, wish, wall))

    def test_the_empty_wall(self):
        machine = read_machine("switch s\nkeep a -\ngate g s ~s\nnever w g\nnever z 0")
        for wish in ("w", "z"):
            told = wall_papers(machine, wish, [])
            self.assertEqual(told[0], [])
            self.right(machine, wish, [], told)

    def test_a_want_beside_its_turned_one(self):
        # Both keepers become what s is, so they are never unlike behind a step.
        machine = read_machine("switch s\nkeep a 0\nkeep b 0\nnext a s\nnext b s\ngate g a ~b\ngate h g s\nnever w h")
        wall = [("~a", "b"), ("a", "~b")]
        told = wall_papers(machine, "w", wall)
        self.assertEqual(told[0], [None, None])
        self.right(machine, "w", wall, told)

    def test_a_want_twice(self):
        machine = read_machine("switch s\nkeep a 0\nkeep b 0\ngate g s a\nnext a g\nnext b g\nnever w b")
        wall = [("~a", "~b"), ("~a",), ("~b",)]
        self.right(machine, "w", wall, wall_papers(machine, "w", wall))

    def test_nexts_that_are_0_and_1(self):
        machine = read_machine("keep a 0\nkeep b 1\nkeep c 0\nnext a 0\nnext b 1\nnext c a\nnever w c\nnever v ~b")
        wall = [("~a",), ("b",), ("~c",), ("~a", "b", "~c")]
        for wish in ("w", "v"):
            self.right(machine, wish, wall, wall_papers(machine, wish, wall))

    def test_refusals(self):
        machine = read_machine(TOGGLE + "never w b\nnever z 0\nnever o 1")
        self.no_wall(machine, "z", [("a",)], "first", 0)
        self.no_wall(machine, "z", [("~a", "b"), ("~a",), ("b",), ("a",)], "first", 2)
        self.no_wall(machine, "z", [()], "first", 0)
        self.no_wall(machine, "o", [("~b",)], "step", 0)
        self.no_wall(machine, "o", [("~a", "b"), ("~b",)], "step", 0)
        self.no_wall(machine, "w", [], "never", 0)
        self.no_wall(machine, "o", [], "never", 0)
        machine = read_machine("keep a 0\nkeep b 0\nkeep c -\nnext b a\nnever w b\nnever v c")
        self.no_wall(machine, "w", [("~a",), ("~c",)], "first", 1)
        self.no_wall(machine, "w", [("~b", "c"), ("~a", "~c"), ("~b",)], "step", 0)
        self.no_wall(machine, "w", [("~a",), ("~a", "~b"), ("~a", "~b", "~c"), ("~b", "c")], "never", 0)
        self.no_wall(machine, "v", [("~a",), ("~b",)], "never", 0)

    def test_the_later_piece_at_fault(self):
        machine = read_machine("switch s\nkeep a 0\nkeep b 0\nnext b s\nnever w a")
        self.no_wall(machine, "w", [("~a",), ("~b",)], "step", 1)
        self.no_wall(machine, "w", [("~a",), ("~a", "b"), ("~a", "~b"), ("~b",), ("~b",)], "step", 3)

    def test_drawn_walls(self):
        met = {}
        for rng, machine, wish in small_machines(531, 120):
            for count in range(4):
                wall = some_wall(rng, machine)
                handed = (copy.deepcopy(wall), fields(machine))
                fault = fault_due(machine, wish, wall)
                if fault is None:
                    told = wall_papers(machine, wish, wall)
                    self.right(machine, wish, wall, told)
                    self.assertEqual(wall_papers(machine, wish, wall), told)
                else:
                    self.no_wall(machine, wish, wall, fault[0], 0 if fault[0] == "never" else fault[1])
                self.assertEqual((wall, fields(machine)), handed)
                met[fault and fault[0]] = met.get(fault and fault[0], 0) + 1
        self.assertGreater(min(met.values()), 40, met)

    def test_stands_far_too_many_to_be_gone_through(self):
        named = ["k" + letter for letter in "abcdefghijklmnop"]
        switches = ["s" + letter for letter in "abcdefghijkl"]
        # Each keeper becomes 1 only where the one ahead of it and a switch are; the first stays 0.
        gates = [("g" + name, ahead, switches[place % 12]) for place, (ahead, name) in enumerate(zip(named, named[1:]))]
        nexts = {name: "g" + name for name in named[1:]}
        machine = Machine(switches, dict.fromkeys(named, 0), gates, nexts, {"w": named[-1]}, {})
        wall = [("~" + name,) for name in named]
        self.right(machine, "w", wall, wall_papers(machine, "w", wall))
        self.no_wall(machine, "w", wall[:-1], "never", 0)
        self.no_wall(machine, "w", wall[:5] + wall[6:], "step", 5)
        self.no_wall(machine, "w", wall + [("kb", "kc")], "first", 16)


class Own(unittest.TestCase):
    def test_what_was_told_may_be_changed(self):
        machine = read_machine("switch s\nkeep a 0\nkeep b 0\ngate g s a\nnext a g\nnext b g\nnever w b")
        wall = [("~a", "~b"), ("~a",), ("~b",)]
        told = wall_papers(machine, "w", wall)
        wanted = copy.deepcopy(told)
        for steps, last in told[0] + [told[1]]:
            steps.append("spoilt")
        told[0].clear()
        self.assertEqual(wall_papers(machine, "w", wall), wanted)

    def test_no_two_lists_are_one(self):
        machine = read_machine("keep a 0\nkeep b 0\nnever w b")
        told = [wall_papers(machine, "w", [("~b",), ("~b",), ("~a",)]) for count in range(2)]
        lists = [papers for papers, last in told]
        lists += [paper[0] for papers, last in told for paper in papers + [last]]
        self.assertEqual(len({id(part) for part in lists}), len(lists))


if __name__ == "__main__":
    unittest.main()
