"""[121]: the answers to all wishes of a machine's text, as a text."""

import re
import unittest

from everguard.answers import answers
from everguard.checking import wall_shown
from everguard.errors import BadMachine
from everguard.machinetext import machine_text, read_machine
from everguard.someday import shadow
from everguard.walls import wall_papers
from helper import (
    fails, great_machines, is_proper_piece, lasso_fits, mixed_machines, read_back, row_fits, shortest_count, wall_faults,
)

GUARD = "some u a\nswitch s\nkeep a 0\nkeep b 1\ngate g s a\nnext a g\nnever w g\nsome v b\nnever x s"

FORMS = re.compile(
    r"wall [a-z]{1,8}|piece( ~?[a-z]{1,8})*|row [a-z]{1,8} ([01]+|-)|step ([01]+|-)|lasso [a-z]{1,8} ([01]+|-) (0|[1-9][0-9]*)"
)


class Examples(unittest.TestCase):
    def test_texts(self):
        self.assertEqual(answers(""), "")
        self.assertEqual(answers("switch s\nkeep a 0"), "")
        self.assertEqual(answers("never w 0"), "wall w\n")
        self.assertEqual(answers("never w 1"), "row w -\nstep -\n")
        self.assertEqual(answers("switch s\nnever w s"), "row w -\nstep 1\n")
        self.assertEqual(answers("keep a 1\nkeep b 0\nnever w a"), "row w 10\nstep -\n")
        self.assertEqual(answers("some w 0"), "lasso w - 0\nstep -\n")
        self.assertEqual(answers("keep a 0\nswitch s\nkeep b 1\nsome w a"), "lasso w 01 0\nstep 0\n")
        self.assertEqual(answers("switch s\nkeep a 0\ngate g s a\nnext a g\nnever w g"), "wall w\npiece ~a\n")

    def test_a_lasso_that_has_a_way_ahead(self):
        self.assertEqual(answers("keep a 0\nkeep b 0\nnext a 1\nsome w b"), "lasso w 00 1\nstep -\nstep -\n")

    def test_a_row_of_several_inputs(self):
        told = answers("switch s\nswitch t\nkeep a 0\nkeep b 0\ngate g s t\nnext a g\nnext b a\nnever w b")
        rows = told.split("\n")
        self.assertEqual((rows[0], rows[1], len(rows), rows[-1]), ("row w 00", "step 11", 5, ""))

    def test_nevers_first(self):
        text = GUARD.replace("some u a\n", "") + "\nsome u a"
        heads = [row.split()[1] for row in answers(text).split("\n") if row.split() and row.split()[0] not in ("piece", "step")]
        self.assertEqual(heads, ["w", "x", "v", "u"])

    def test_texts_at_fault(self):
        for text in (GUARD, "switch s\nswitch s", "gate g a b", "\n\nnever w s", "keep a 2", "\n".join(
                "switch s" + letter for letter in "abcdefghijklm")):
            with self.assertRaises(BadMachine) as wanted:
                read_machine(text)
            with self.assertRaises(BadMachine) as told:
                answers(text)
            self.assertEqual((told.exception.place, told.exception.word), (wanted.exception.place, wanted.exception.word))


class Texts(unittest.TestCase):
    def fits(self, machine):
        """All rows have one of the forms, there is one answer for each wish, in order; these."""
        told = answers(machine_text(machine))
        self.assertIs(type(told), str)
        self.assertTrue(told == "" or told.endswith("\n"))
        self.assertTrue(all(FORMS.fullmatch(row) for row in told.split("\n")[:-1]), told)
        found = read_back(told)
        self.assertEqual([answer[0] for answer in found], list(machine.nevers) + list(machine.somes))
        for wish, word, *rest in found:
            if word == "row":
                self.assertIn(wish, machine.nevers)
                self.assertTrue(row_fits(machine, wish, *rest))
            elif word == "lasso":
                self.assertIn(wish, machine.somes)
                self.assertTrue(lasso_fits(machine, wish, *rest))
        self.assertEqual(answers(machine_text(machine)), told)
        return found


class Chance(Texts):
    def test_drawn_machines(self):
        met = {"row": 0, "lasso": 0, "wall": 0, "shadow": 0}
        for rng, machine in mixed_machines(1211, 150):
            if len(machine.keepers) > 3:
                continue
            for wish, word, *rest in self.fits(machine):
                if wish in machine.nevers:
                    self.assertEqual(word == "row", shortest_count(machine, wish) is not None)
                else:
                    self.assertEqual(word == "lasso", fails(machine, wish))
                if word == "wall":
                    of = machine if wish in machine.nevers else shadow(machine, wish)
                    self.assertTrue(all(is_proper_piece(of, piece) for piece in rest[0]))
                    self.assertEqual(wall_faults(of, wish, rest[0]), [])
                met["shadow" if word == "wall" and wish in machine.somes else word] += 1
        self.assertGreater(min(met.values()), 20, met)


class Great(Texts):
    def test_machines_of_twelve_switches_sixteen_keepers_sixty_gates(self):
        met = {"row": 0, "lasso": 0, "wall": 0}
        for switches, seed in ((12, 1212), (1, 1213)):
            for rng, machine in great_machines(seed, 15, switches):
                for wish, word, *rest in self.fits(machine):
                    met[word] += 1
                    if word == "wall" and len(rest[0]) < 100:
                        of = machine if wish in machine.nevers else shadow(machine, wish)
                        self.assertIs(wall_shown(of, wish, rest[0], wall_papers(of, wish, rest[0])), True)
        self.assertGreater(min(met.values()), 10, met)


if __name__ == "__main__":
    unittest.main()
