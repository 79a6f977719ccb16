"""[91], [92]: rounds by what is settled, as far as the walk with open bits tells."""

import random
import unittest

from everguard.machinetext import machine_text, read_machine
from everguard.settled import by_settled
from helper import (
    all_names, drawn_run_fault, empty, fields, goal_of, great_machines, is_idle, mixed_machines, round_fault, some_machine,
)


def reckoned_bits(machine):
    """A dict from all names to 0, 1 or "open", by the walk of [92]; keepers become open one by one."""
    def value(bits, literal):
        if literal in ("0", "1"):
            return int(literal)
        bit = bits[literal.lstrip("~")]
        return bit if bit == "open" or literal[0] != "~" else 1 - bit

    bits = {name: "open" if first is None else first for name, first in machine.keepers.items()}
    bits.update({name: "open" for name in machine.switches})
    while True:
        for name, one, other in machine.gates:
            pair = [value(bits, one), value(bits, other)]
            bits[name] = 0 if 0 in pair else 1 if pair == [1, 1] else "open"
        for name in machine.keepers:
            if bits[name] != "open" and value(bits, machine.nexts.get(name, name)) != bits[name]:
                bits[name] = "open"
                break
        else:
            return bits


class Examples(unittest.TestCase):
    def test_bits_that_stay(self):
        machine = read_machine("\n".join([
            "switch s", "keep a 0", "keep b 1", "keep c -", "keep d 0", "gate g s a", "gate h ~g b", "gate i h s",
            "next a g", "next b h", "next d s", "never w g", "never x ~h", "never y i", "some z d", "some q c"]))
        small, names = by_settled(machine)
        self.assertEqual(machine_text(small), "\n".join([
            "switch s", "keep c -", "keep d 0", "gate i 1 s", "next d s", "never w 0", "never x 0", "never y i",
            "some z d", "some q c"]))
        self.assertEqual(list(names.items()), [
            ("s", "s"), ("a", "0"), ("b", "1"), ("c", "c"), ("d", "d"), ("g", "0"), ("h", "1"), ("i", "i")])

    def test_keepers_without_nexts(self):
        small, names = by_settled(read_machine("keep a 0\nkeep b 1\nkeep c -\nnext c c"))
        self.assertEqual(names, {"a": "0", "b": "1", "c": "c"})
        self.assertEqual(machine_text(small), "keep c -\nnext c c")

    def test_one_opens_the_next(self):
        machine = read_machine("switch s\nkeep a 0\nkeep b 0\nkeep c 0\nkeep d 0\nnext a s\nnext b a\nnext c b\nnext d 0")
        self.assertEqual(by_settled(machine)[1], {"s": "s", "a": "a", "b": "b", "c": "c", "d": "0"})

    def test_a_keeper_that_turns_is_open(self):
        machine = read_machine("keep a 0\nkeep b 1\nkeep c 0\nnext a ~a\nnext b 0\nnext c 1\nnever w b")
        self.assertTrue(is_idle(machine, by_settled(machine)))

    def test_what_the_open_bits_do_not_tell(self):
        # g is never 1, but both its literals are open.
        machine = read_machine("switch s\nkeep a 0\ngate g s ~s\nnext a g\nnever w a")
        self.assertTrue(is_idle(machine, by_settled(machine)))

    def test_gates_of_bits(self):
        machine = read_machine("switch s\ngate g 0 s\ngate h 1 ~g\ngate i s h\ngate j 1 s\nnever w ~i\nnever v ~g\nnever u 1")
        small, names = by_settled(machine)
        self.assertEqual(names, {"s": "s", "g": "0", "h": "1", "i": "i", "j": "j"})
        self.assertEqual(machine_text(small), "switch s\ngate i s 1\ngate j 1 s\nnever w ~i\nnever v 1\nnever u 1")

    def test_nothing_at_all(self):
        machine = read_machine("never w 0")
        self.assertTrue(is_idle(machine, by_settled(machine)))


class Chance(unittest.TestCase):
    def fits(self, machine):
        before = fields(machine)
        made = by_settled(machine)
        small, names = made
        bits = reckoned_bits(machine)
        wanted = [(name, name if bits[name] == "open" else str(bits[name])) for name in all_names(machine)]
        self.assertEqual(list(names.items()), wanted)
        gates = [(name, goal_of(names, one), goal_of(names, other)) for name, one, other in machine.gates]
        self.assertEqual(small.gates, [gate for gate in gates if names[gate[0]] == gate[0]])
        kept = [(name, goal_of(names, told)) for name, told in machine.nexts.items() if names[name] == name]
        self.assertEqual(list(small.nexts.items()), kept)
        self.assertEqual((list(small.nevers), list(small.somes)), (list(machine.nevers), list(machine.somes)))
        self.assertTrue(is_idle(small, by_settled(small)))
        self.assertEqual(fields(machine), before)
        return made

    def test_drawn_machines(self):
        gone = 0
        for rng, machine in mixed_machines(921, 240):
            made = self.fits(machine)
            self.assertIsNone(round_fault(machine, made))
            gone += not is_idle(machine, made)
        self.assertGreater(gone, 50)

    def test_great_machines(self):
        gone = 0
        for rng, machine in great_machines(922, 45):
            made = self.fits(machine)
            self.assertIsNone(drawn_run_fault(rng, machine, made, 20))
            gone += not is_idle(machine, made)
        self.assertGreater(gone, 15)

    def test_what_was_told_may_be_changed(self):
        rng = random.Random(923)
        for count in range(20):
            machine = some_machine(rng, 2, 4, 9)
            small, names = by_settled(machine)
            wanted = [fields(small), list(names.items())]
            names.clear()
            empty(small)
            small, names = by_settled(machine)
            self.assertEqual([fields(small), list(names.items())], wanted)


if __name__ == "__main__":
    unittest.main()
