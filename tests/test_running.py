"""[21], [22], [23], [24]: values, steps and runs of the plain machine."""

import random
import unittest

from everguard.machines import Machine
from everguard.machinetext import read_machine
from everguard.running import comes_there, first_stands, is_first, stepped, value_of, values_at, walked
from helper import (
    bit_of, counter_machine, reckoned, reckoned_firsts, reckoned_step, some_machine, tuples, wish_literal,
)

LATCH = """
switch set
switch clear
keep k 0
keep old -
keep still 1
gate stay k ~clear
gate none ~set ~stay
gate now ~none 1
next old k
next k now
never both now
some day ~none
never odd ~k
"""


class Values(unittest.TestCase):
    def test_values_are_told_in_order(self):
        made = read_machine("keep k 0\nswitch b\ngate g b k\nswitch a\nkeep c 1\ngate h ~g 1")
        values = values_at(made, (0, 1), (1, 0))
        self.assertEqual(list(values.items()), [("b", 1), ("a", 0), ("k", 0), ("c", 1), ("g", 0), ("h", 1)])

    def test_gates_of_each_sort_of_literal(self):
        made = read_machine("\n".join((
            "switch a", "switch b", "gate ab a b", "gate na ~a b", "gate nn ~a ~b", "gate aa a a", "gate an a ~a",
            "gate zo 0 a", "gate oo 1 a", "gate c 1 1", "gate d 0 0", "gate e 0 1", "gate chain ~ab ~nn",
        )))
        for a in (0, 1):
            for b in (0, 1):
                values = values_at(made, (), (a, b))
                self.assertEqual(values, {
                    "a": a, "b": b, "ab": a & b, "na": (1 - a) & b, "nn": (1 - a) & (1 - b), "aa": a, "an": 0,
                    "zo": 0, "oo": a, "c": 1, "d": 0, "e": 0, "chain": a ^ b,
                })

    def test_value_of(self):
        values = {"a": 0, "b": 1}
        told = [value_of(values, literal) for literal in ("a", "~a", "b", "~b", "0", "1")]
        self.assertEqual(told, [0, 1, 1, 0, 0, 1])
        self.assertEqual((value_of({}, "0"), value_of({}, "1")), (0, 1))
        self.assertEqual(values, {"a": 0, "b": 1})

    def test_nothing_at_all(self):
        made = read_machine("")
        self.assertEqual(values_at(made, (), ()), {})
        self.assertEqual(stepped(made, (), ()), ())

    def test_held_against_a_reckoning(self):
        rng = random.Random(21)
        for count in range(120):
            made = some_machine(rng, rng.randint(0, 3), rng.randint(0, 4), rng.randint(0, 12))
            for stand in tuples(len(made.keepers)):
                for told in tuples(len(made.switches)):
                    wanted = reckoned(made, stand, told)
                    values = values_at(made, stand, told)
                    self.assertEqual(list(values.items()), list(wanted.items()))
                    for literal in list(made.nevers.values()) + ["0", "1"]:
                        self.assertEqual(value_of(values, literal), bit_of(wanted, literal))
                    self.assertEqual(stepped(made, stand, told), reckoned_step(made, stand, told))


class Steps(unittest.TestCase):
    def test_a_stand_is_a_tuple_in_the_keepers_order(self):
        # The rows of next come in another order than the keepers.
        made = read_machine("switch s\nkeep a 0\nkeep b 0\nkeep c 0\nnext c ~s\nnext b a\nnext a s")
        self.assertEqual(stepped(made, (0, 0, 0), (1,)), (1, 0, 0))
        self.assertEqual(stepped(made, (1, 0, 1), (0,)), (0, 1, 1))
        self.assertIs(type(stepped(made, (0, 0, 0), (1,))), tuple)

    def test_keepers_take_their_nexts_all_at_once(self):
        made = read_machine("keep a 0\nkeep b 1\nnext a b\nnext b a")
        self.assertEqual(stepped(made, (0, 1), ()), (1, 0))

    def test_a_keeper_without_a_next_stays(self):
        made = read_machine("switch s\nkeep a -\nkeep b -\nnext a s")
        for bit in (0, 1):
            self.assertEqual(stepped(made, (0, bit), (1,)), (1, bit))

    def test_nexts_of_0_1_and_turned_ones(self):
        made = read_machine("keep a -\nkeep b -\nkeep c -\nnext a 0\nnext b 1\nnext c ~c")
        self.assertEqual(stepped(made, (1, 0, 0), ()), (0, 1, 1))
        self.assertEqual(stepped(made, (0, 1, 1), ()), (0, 1, 0))


class Walks(unittest.TestCase):
    def test_a_row_of_one_input(self):
        made = read_machine(LATCH)
        self.assertEqual(walked(made, (0, 1, 1), [(1, 0)]), [(0, 1, 1)])

    def test_a_row_of_many_inputs(self):
        made = read_machine(LATCH)
        row = [(1, 0), (0, 0), (0, 1), (0, 0), (1, 1)]
        stands = [(0, 1, 1), (1, 0, 1), (1, 1, 1), (0, 1, 1), (0, 0, 1)]
        self.assertEqual(walked(made, (0, 1, 1), row), stands)

    def test_a_walk_may_begin_at_any_stand(self):
        made = read_machine(LATCH)
        self.assertEqual(walked(made, (1, 0, 0), [(0, 0), (0, 0)]), [(1, 0, 0), (1, 1, 0)])

    def test_without_a_switch(self):
        made = counter_machine(3)
        wanted = [(k & 1, k >> 1 & 1, k >> 2 & 1) for k in range(8)] + [(0, 0, 0)]
        self.assertEqual(walked(made, (0, 0, 0), [()] * 9), wanted)

    def test_without_a_keeper(self):
        made = read_machine("switch a\nnever w a")
        self.assertEqual(walked(made, (), [(0,), (1,), (0,)]), [(), (), ()])

    def test_a_long_row(self):
        made = read_machine("switch s\nkeep a 0\nkeep b 0\nnext a s\nnext b a")
        row = [(k % 2,) for k in range(4000)]
        stands = walked(made, (0, 0), row)
        self.assertEqual(len(stands), 4000)
        self.assertEqual(stands[:4], [(0, 0), (0, 0), (1, 0), (0, 1)])
        self.assertEqual(stands[-2:], [(1, 0), (0, 1)])

    def test_held_against_a_reckoning(self):
        rng = random.Random(22)
        for count in range(150):
            made = some_machine(rng, rng.randint(0, 4), rng.randint(0, 6), rng.randint(0, 15))
            stand = tuple(rng.randrange(2) for name in made.keepers)
            row = [tuple(rng.randrange(2) for name in made.switches) for place in range(rng.randint(1, 9))]
            wanted = [stand]
            for told in row[:-1]:
                wanted.append(reckoned_step(made, wanted[-1], told))
            self.assertEqual(walked(made, stand, row), wanted)
            for wish in list(made.nevers) + list(made.somes):
                there = bit_of(reckoned(made, wanted[-1], row[-1]), wish_literal(made, wish)) == 1
                there = there and stand in reckoned_firsts(made)
                self.assertIs(comes_there(made, wish, stand, row), there)


class Firsts(unittest.TestCase):
    def test_is_first(self):
        made = Machine([], {"a": 0, "b": 1, "c": None}, [], {}, {}, {})
        for stand in tuples(3):
            self.assertIs(is_first(made, stand), stand in ((0, 1, 0), (0, 1, 1)), stand)

    def test_is_first_without_a_keeper(self):
        self.assertIs(is_first(read_machine("switch a"), ()), True)

    def test_first_stands_rise(self):
        made = Machine(["s"], {"a": None, "b": 1, "c": None, "d": 0, "e": None}, [], {}, {}, {})
        wanted = [(a, 1, c, 0, e) for a in (0, 1) for c in (0, 1) for e in (0, 1)]
        self.assertEqual(first_stands(made), wanted)

    def test_first_stands_of_eight_open_bits(self):
        made = Machine([], {name: None for name in "abcdefgh"}, [], {}, {}, {})
        self.assertEqual(first_stands(made), tuples(8))

    def test_one_first_stand(self):
        made = Machine([], {"a": 1, "b": 0}, [], {"a": "b"}, {}, {})
        self.assertEqual(first_stands(made), [(1, 0)])

    def test_first_stands_without_a_keeper(self):
        self.assertEqual(first_stands(read_machine("switch a")), [()])

    def test_held_against_a_reckoning(self):
        rng = random.Random(23)
        for count in range(60):
            made = some_machine(rng, 1, rng.randint(0, 8), 2)
            self.assertEqual(first_stands(made), reckoned_firsts(made))
            for stand in tuples(len(made.keepers)):
                self.assertIs(is_first(made, stand), stand in reckoned_firsts(made))


class Coming(unittest.TestCase):
    def test_wishes_of_either_sort(self):
        made = read_machine(LATCH)
        for wish in ("both", "day"):
            self.assertIs(comes_there(made, wish, (0, 0, 1), [(1, 0)]), True)
            self.assertIs(comes_there(made, wish, (0, 0, 1), [(0, 0)]), False)
            self.assertIs(comes_there(made, wish, (0, 1, 1), [(1, 0), (0, 0)]), True)
            self.assertIs(comes_there(made, wish, (0, 1, 1), [(1, 0), (0, 1)]), False)

    def test_from_a_stand_that_is_no_first_one(self):
        made = read_machine(LATCH)
        for stand in ((1, 0, 1), (0, 0, 0), (1, 1, 0)):
            self.assertIs(comes_there(made, "both", stand, [(1, 0)]), False)

    def test_only_the_last_stand_with_its_last_input_counts(self):
        made = read_machine("switch s\nkeep k 0\nnext k s\nnever w k")
        self.assertIs(comes_there(made, "w", (0,), [(1,)]), False)
        self.assertIs(comes_there(made, "w", (0,), [(1,), (0,)]), True)
        self.assertIs(comes_there(made, "w", (0,), [(1,), (0,), (1,)]), False)

    def test_a_literal_of_the_last_input_alone(self):
        made = read_machine("switch s\nnever w ~s\nsome v s")
        self.assertIs(comes_there(made, "w", (), [(1,), (0,)]), True)
        self.assertIs(comes_there(made, "v", (), [(1,), (0,)]), False)
        self.assertIs(comes_there(made, "v", (), [(0,), (1,)]), True)

    def test_wishes_of_0_and_1(self):
        made = read_machine("keep k 1\nnever z 0\nsome o 1")
        self.assertIs(comes_there(made, "z", (1,), [()]), False)
        self.assertIs(comes_there(made, "o", (1,), [()]), True)
        self.assertIs(comes_there(made, "o", (0,), [()]), False)

    def test_a_wish_called_like_a_keeper(self):
        made = read_machine("keep a 0\nkeep b 1\nnever a b\nsome b a")
        self.assertIs(comes_there(made, "a", (0, 1), [()]), True)
        self.assertIs(comes_there(made, "b", (0, 1), [()]), False)


if __name__ == "__main__":
    unittest.main()
