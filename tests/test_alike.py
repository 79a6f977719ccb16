"""[91], [92]: rounds by what is alike."""

import random
import unittest

from everguard.alike import by_alike
from everguard.machines import Machine
from everguard.machinetext import machine_text, read_machine
from helper import (
    Builder, drawn_run_fault, empty, fields, full_machine, great_machines, is_idle, letters, mixed_machines, other_of, round_fault,
    twofold_machine,
)


class Examples(unittest.TestCase):
    def test_gates_of_the_same_two_literals(self):
        machine = read_machine("switch s\nswitch t\ngate g s ~t\ngate h ~t s\ngate i s t\ngate j h i\ngate k i g\nnever w ~k")
        small, names = by_alike(machine)
        self.assertEqual(names, {"s": "s", "t": "t", "g": "g", "h": "g", "i": "i", "j": "j", "k": "j"})
        self.assertEqual(machine_text(small), "switch s\nswitch t\ngate g s ~t\ngate i s t\ngate j g i\nnever w ~j")

    def test_gates_of_one_literal_or_of_bits(self):
        rows = ["switch s", "gate a s s", "gate b ~s ~s", "gate c s ~s", "gate d s 0", "gate e 1 ~s", "gate f ~c ~d",
                "gate g a ~b", "gate h a b", "gate i e f", "gate j 1 0", "gate k 1 1", "gate l 0 0", "never w ~i", "some v h"]
        small, names = by_alike(read_machine("\n".join(rows)))
        self.assertEqual(list(names.values()), ["s", "s", "~s", "0", "0", "~s", "1", "s", "0", "~s", "0", "1", "0"])
        self.assertEqual(machine_text(small), "switch s\nnever w s\nsome v 0")

    def test_keepers_that_stay_alike(self):
        rows = ["switch s", "keep a 0", "keep b 0", "keep c 1", "keep d 0", "keep e 1", "gate g s a", "gate h b s",
                "gate i ~c s", "next a g", "next b h", "next c i", "next d s", "next e i", "never w b", "never v ~e"]
        small, names = by_alike(read_machine("\n".join(rows)))
        self.assertEqual(list(names.items()), [
            ("s", "s"), ("a", "a"), ("b", "a"), ("c", "c"), ("d", "d"), ("e", "c"), ("g", "g"), ("h", "g"), ("i", "i")])
        self.assertEqual(machine_text(small), "\n".join([
            "switch s", "keep a 0", "keep c 1", "keep d 0", "gate g s a", "gate i ~c s", "next a g", "next c i", "next d s",
            "never w a", "never v ~c"]))

    def test_keepers_whose_first_bit_is_open_or_another(self):
        for text in ("keep a -\nkeep b -\nnever w a", "keep a 0\nkeep b 1\nnever w a",
                     "switch s\nkeep a -\nkeep b 0\nnext a s\nnext b s\nnever w a"):
            self.assertTrue(is_idle(read_machine(text), by_alike(read_machine(text))), text)

    def test_keepers_that_hold_one_another(self):
        # Each pair is alike only as long as the other one is.
        machine = read_machine("keep a 0\nkeep b 1\nkeep c 0\nkeep d 1\nnext a ~b\nnext c ~d\nnext b ~c\nnext d ~a\nnever w c")
        small, names = by_alike(machine)
        self.assertEqual(names, {"a": "a", "b": "b", "c": "a", "d": "b"})
        self.assertEqual(machine_text(small), "keep a 0\nkeep b 1\nnext a ~b\nnext b ~a\nnever w a")

    def test_one_apart_sets_the_others_apart(self):
        machine = read_machine("switch s\nkeep a 0\nkeep b 0\nkeep c 0\nkeep d 0\nnext a s\nnext b a\nnext c b\nnext d c")
        self.assertTrue(is_idle(machine, by_alike(machine)))

    def test_a_keeper_without_a_next(self):
        machine = read_machine("keep a 0\nkeep b 0\nkeep c 0\nnext b a\nnext c c\nnever w c")
        self.assertEqual(by_alike(machine)[1], {"a": "a", "b": "a", "c": "a"})

    def test_pairs_in_a_full_machine(self):
        machine = full_machine(0)
        small, names = by_alike(machine)
        self.assertEqual([names[name] for name in letters("b", 8)], letters("a", 8))
        self.assertEqual((small.nevers["apart"], small.nevers["unlike"]), ("0", "0"))


class Chance(unittest.TestCase):
    def fits(self, machine):
        before = fields(machine)
        made = by_alike(machine)
        small, names = made
        self.assertNotIn(None, names.values())
        for name, first in machine.keepers.items():
            if names[name] != name:
                self.assertIn(first, (0, 1))
                self.assertEqual(machine.keepers[names[name]], first)
                self.assertLess(list(machine.keepers).index(names[name]), list(machine.keepers).index(name))
        pairs = [tuple(sorted(gate[1:])) for gate in small.gates]
        self.assertEqual(len(set(pairs)), len(pairs))
        for one, other in pairs:
            self.assertFalse({one, other} & {"0", "1"})
            self.assertNotIn(one, (other, other_of(other)))
        self.assertEqual((list(small.nevers), list(small.somes)), (list(machine.nevers), list(machine.somes)))
        self.assertTrue(is_idle(small, by_alike(small)))
        self.assertEqual(fields(machine), before)
        return made

    def test_drawn_machines(self):
        met = {"gates": 0, "keepers": 0, "turned": 0}
        for rng, machine in mixed_machines(931, 300):
            made = self.fits(machine)
            self.assertIsNone(round_fault(machine, made))
            met["gates"] += any(made[1][gate[0]] not in (gate[0], "0", "1") for gate in machine.gates)
            met["keepers"] += any(made[1][name] != name for name in machine.keepers)
            met["turned"] += any(goal[0] == "~" for goal in made[1].values())
        self.assertGreater(min(met.values()), 20, met)

    def test_twofold_machines_of_full_size(self):
        rng = random.Random(932)
        met = {"gates": 0, "keepers": 0}
        for count in range(30):
            machine = twofold_machine(rng, 12, 16, 60)
            made = self.fits(machine)
            self.assertIsNone(drawn_run_fault(rng, machine, made, 20))
            met["gates"] += len(made[0].gates) < 40
            met["keepers"] += len(made[0].keepers) < 16
        self.assertGreater(min(met.values()), 10, met)

    def test_great_machines(self):
        for rng, machine in great_machines(933, 30):
            self.assertIsNone(drawn_run_fault(rng, machine, self.fits(machine), 20))

    def test_two_counters(self):
        build = Builder()
        nexts = {}
        for named in (letters("a", 7), letters("b", 7)):
            carry = "s"
            for name in named:
                nexts[name] = build.unlike(name, carry)
                carry = build.both(carry, name)
        machine = Machine(["s"], dict.fromkeys(nexts, 0), build.gates, nexts, {"w": "bg"}, {})
        small, names = self.fits(machine)
        self.assertEqual([names[name] for name in letters("b", 7)], letters("a", 7))
        # What each carries stands in its sum already.
        self.assertEqual((len(small.gates), small.nevers), (21, {"w": "ag"}))

    def test_what_was_told_may_be_changed(self):
        rng = random.Random(934)
        for count in range(20):
            machine = twofold_machine(rng, 2, 4, 12)
            small, names = by_alike(machine)
            wanted = [fields(small), list(names.items())]
            names.clear()
            empty(small)
            small, names = by_alike(machine)
            self.assertEqual([fields(small), list(names.items())], wanted)


if __name__ == "__main__":
    unittest.main()
