"""[91], [92]: rounds by cone: what a wish does not hang on is left out."""

import unittest

from everguard.cones import by_cone
from everguard.machinetext import machine_text, read_machine
from helper import (
    all_names, drawn_run_fault, empty, fields, great_machines, is_idle, mixed_machines, round_fault, small_machines,
)

GUARD = """switch s
switch t
keep a 0
keep b 1
keep c -
gate g s a
gate h g ~b
gate i t c
next a h
next c i
never w ~g
never z 0
some v c
some u ~b"""


def reckoned_cone(machine, literal):
    """The names on which the literal hangs."""
    parts = {name: [one, other] for name, one, other in machine.gates}
    parts.update({name: [machine.nexts.get(name, name)] for name in machine.keepers})
    found = set()
    fresh = {literal.lstrip("~")} - {"0", "1"}
    while fresh:
        found |= fresh
        fresh = {part.lstrip("~") for name in fresh for part in parts.get(name, [])} - {"0", "1"} - found
    return found


class Examples(unittest.TestCase):
    def test_what_is_left(self):
        machine = read_machine(GUARD)
        small, names = by_cone(machine, "w")
        self.assertEqual(machine_text(small), "\n".join([
            "switch s", "keep a 0", "keep b 1", "gate g s a", "gate h g ~b", "next a h", "never w ~g"]))
        self.assertEqual(list(names.items()), [
            ("s", "s"), ("t", None), ("a", "a"), ("b", "b"), ("c", None), ("g", "g"), ("h", "h"), ("i", None)])

    def test_wishes_of_either_sort(self):
        machine = read_machine(GUARD)
        small, names = by_cone(machine, "v")
        self.assertEqual(machine_text(small), "switch t\nkeep c -\ngate i t c\nnext c i\nsome v c")
        small, names = by_cone(machine, "u")
        self.assertEqual(machine_text(small), "keep b 1\nsome u ~b")
        self.assertEqual([name for name in names if names[name]], ["b"])

    def test_a_wish_that_hangs_on_nothing(self):
        small, names = by_cone(read_machine(GUARD), "z")
        self.assertEqual(machine_text(small), "never z 0")
        self.assertEqual(set(names.values()), {None})

    def test_all_is_left(self):
        machine = read_machine("keep a 0\nswitch s\ngate g s ~a\nnext a g\nnever w a")
        made = by_cone(machine, "w")
        self.assertTrue(is_idle(machine, made))
        self.assertIsNot(made[0], machine)

    def test_a_gate_of_bits(self):
        machine = read_machine("switch s\ngate g 0 ~s\ngate h 1 1\nnever w ~g\nnever v h")
        self.assertEqual(machine_text(by_cone(machine, "w")[0]), "switch s\ngate g 0 ~s\nnever w ~g")
        self.assertEqual(machine_text(by_cone(machine, "v")[0]), "gate h 1 1\nnever v h")


class Chance(unittest.TestCase):
    def fits(self, machine, wish):
        before = fields(machine)
        made = by_cone(machine, wish)
        self.assertIs(type(made), tuple)
        small, names = made
        literal = {**machine.nevers, **machine.somes}[wish]
        cone = reckoned_cone(machine, literal)
        self.assertEqual(list(names.items()), [(name, name if name in cone else None) for name in all_names(machine)])
        self.assertEqual({**small.nevers, **small.somes}, {wish: literal})
        self.assertEqual(wish in small.nevers, wish in machine.nevers)
        self.assertEqual(small.gates, [gate for gate in machine.gates if gate[0] in cone])
        kept = [(name, told) for name, told in machine.nexts.items() if name in cone]
        self.assertEqual(list(small.nexts.items()), kept)
        self.assertTrue(is_idle(small, by_cone(small, wish)))
        self.assertEqual(fields(machine), before)
        return made

    def test_drawn_machines(self):
        for rng, machine in mixed_machines(911, 120):
            for wish in list(machine.nevers) + list(machine.somes):
                self.assertIsNone(round_fault(machine, self.fits(machine, wish)))

    def test_great_machines(self):
        met = {"left": 0, "out": 0}
        for rng, machine in great_machines(912, 24):
            for wish in list(machine.nevers) + list(machine.somes):
                made = self.fits(machine, wish)
                self.assertIsNone(drawn_run_fault(rng, machine, made, 12))
                met["left"] += len(made[0].keepers) > 4
                met["out"] += len(made[0].keepers) < 16
        self.assertGreater(min(met.values()), 8, met)

    def test_what_was_told_may_be_changed(self):
        for rng, machine, wish in small_machines(913, 20):
            wanted = [fields(by_cone(machine, wish)[0]), list(by_cone(machine, wish)[1].items())]
            small, names = by_cone(machine, wish)
            names.clear()
            empty(small)
            small, names = by_cone(machine, wish)
            self.assertEqual([fields(small), list(names.items())], wanted)


if __name__ == "__main__":
    unittest.main()
