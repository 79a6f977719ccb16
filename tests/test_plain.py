"""[25]: all stands that can be come to, gone through."""

import random
import unittest

from everguard.machinetext import read_machine
from everguard.plain import plain_answer
from everguard.running import comes_there
from helper import counter_machine, rings, shortest_count, some_machine, tuples


class Answers(unittest.TestCase):
    def holds(self, machine, wish):
        """The answer is one that fits; it is told again."""
        count = shortest_count(machine, wish)
        answer = plain_answer(machine, wish)
        self.assertIs(type(answer), tuple)
        if count is None:
            reached = sorted(stand for stands in rings(machine) for stand in stands)
            self.assertEqual(answer, ("wall", reached))
            self.assertIs(type(answer[1]), list)
        else:
            self.assertEqual((answer[0], len(answer)), ("row", 3))
            self.assertIs(type(answer[1]), tuple)
            self.assertIs(type(answer[2]), list)
            self.assertTrue(all(told in tuples(len(machine.switches)) for told in answer[2]))
            self.assertEqual(len(answer[2]), count)
            self.assertIs(comes_there(machine, wish, answer[1], answer[2]), True)
        self.assertEqual(plain_answer(machine, wish), answer)
        return answer

    def test_a_row_of_one_input(self):
        made = read_machine("switch s\nkeep k 0\nnext k s\nnever w ~k\nsome v s")
        self.assertEqual(len(self.holds(made, "w")[2]), 1)
        self.assertEqual(self.holds(made, "v"), ("row", (0,), [(1,)]))

    def test_the_shortest_of_several_ways(self):
        # One way goes through b alone, the other through c, d, and e.
        made = read_machine("\n".join((
            "switch s", "keep b 0", "keep c 0", "keep d 0", "keep e 0", "next b s", "next c ~s", "next d c", "next e d",
            "gate neither ~b ~e", "never w ~neither",
        )))
        answer = self.holds(made, "w")
        self.assertEqual((len(answer[2]), answer[2][0]), (2, (1,)))

    def test_first_stands_that_are_nearer_than_others(self):
        made = read_machine("keep a -\nkeep b -\nkeep c 0\nnext a b\nnext c a\nnever w c")
        answer = self.holds(made, "w")
        self.assertEqual((len(answer[2]), answer[1][0]), (2, 1))

    def test_a_wall_has_all_stands_rising(self):
        made = read_machine("\n".join((
            "switch s", "keep c -", "keep b 0", "keep a 0", "next a s", "next b a", "next c c", "gate x a ~a", "never w x",
        )))
        wanted = [(c, b, a) for c in (0, 1) for b in (0, 1) for a in (0, 1)]
        self.assertEqual(self.holds(made, "w"), ("wall", wanted))

    def test_a_wall_without_the_stands_that_cannot_be_come_to(self):
        made = read_machine("switch s\nkeep a 0\nkeep b 1\ngate go s 1\nnext a go\nnext b ~go\ngate x a b\nnever w x")
        self.assertEqual(self.holds(made, "w"), ("wall", [(0, 1), (1, 0)]))

    def test_wishes_of_either_sort(self):
        made = read_machine("switch s\nkeep a 0\nnext a s\ngate x a ~a\nnever w x\nsome v x\nnever t a\nsome u a")
        for wish in ("w", "v"):
            self.assertEqual(self.holds(made, wish), ("wall", [(0,), (1,)]))
        for wish in ("t", "u"):
            self.assertEqual(len(self.holds(made, wish)[2]), 2)

    def test_without_switches(self):
        made = read_machine("keep a 0\nkeep b 0\nnext a 1\nnext b a\nnever w b\nnever v 0")
        self.assertEqual(self.holds(made, "w"), ("row", (0, 0), [(), (), ()]))
        self.assertEqual(self.holds(made, "v"), ("wall", [(0, 0), (1, 0), (1, 1)]))

    def test_without_keepers(self):
        made = read_machine("switch a\nswitch b\ngate g a ~b\nnever w g\ngate x g b\nsome v x")
        self.assertEqual(self.holds(made, "w"), ("row", (), [(1, 0)]))
        self.assertEqual(self.holds(made, "v"), ("wall", [()]))

    def test_without_either(self):
        made = read_machine("never w 0\nnever v 1")
        self.assertEqual(self.holds(made, "w"), ("wall", [()]))
        self.assertEqual(self.holds(made, "v"), ("row", (), [()]))

    def test_keepers_in_a_row(self):
        rows = ["switch s", "keep a 0"] + [f"keep {name} 0" for name in "bcdefgh"]
        rows += [f"next {name} {earlier}" for earlier, name in zip("abcdefg", "bcdefgh")]
        made = read_machine("\n".join(rows + ["next a s", "never w h", "gate x h ~h", "never v x"]))
        answer = self.holds(made, "w")
        self.assertEqual((len(answer[2]), answer[2][0]), (9, (1,)))
        self.assertEqual(self.holds(made, "v"), ("wall", tuples(8)))

    def test_many_stands_one_behind_the_other(self):
        made = counter_machine(8)
        answer = self.holds(made, "full")
        self.assertEqual(answer, ("row", (0,) * 8, [()] * 256))

    def test_each_stand_of_a_counter(self):
        # A switch may hold the counter back; the first bit may be either, so odd stands are nearer.
        rows = ["switch go", "keep a -", "keep b 0", "keep c 0"]
        carry = "go"
        for name in "abc":
            rows += [f"gate c{name} {name} {carry}", f"gate n{name} ~{name} ~{carry}", f"gate x{name} ~c{name} ~n{name}"]
            rows.append(f"next {name} x{name}")
            carry = f"c{name}"
        for target in range(8):
            literals = [("" if target >> place & 1 else "~") + name for place, name in enumerate("abc")]
            wish = [f"gate two {literals[0]} {literals[1]}", f"gate all two {literals[2]}", "some day all"]
            answer = self.holds(read_machine("\n".join(rows + wish)), "day")
            self.assertEqual(len(answer[2]), max(1, target))

    def test_held_against_a_reckoning(self):
        rng = random.Random(25)
        kinds = {"row": 0, "wall": 0}
        for count in range(250):
            made = some_machine(rng, rng.randint(0, 3), rng.randint(0, 6), rng.randint(0, 20))
            for wish in list(made.nevers) + list(made.somes):
                kinds[self.holds(made, wish)[0]] += 1
        self.assertGreater(min(kinds.values()), 50)

    def test_as_great_as_it_may_be(self):
        rng = random.Random(26)
        for count in range(4):
            made = some_machine(rng, 4, 8, 60)
            for wish in list(made.nevers) + list(made.somes):
                self.holds(made, wish)


if __name__ == "__main__":
    unittest.main()
