"""[81]: halved trees, held against sets of bits."""

import copy
import itertools
import random
import unittest

from everguard.trees import both, either, holds, opposite, put_for, some_of
from helper import plain_tree, tuples


def bits_of(order, tree):
    """The tuples of bits with which the tree comes to True, by the test's own walk."""
    def walk(part, values):
        while not isinstance(part, bool):
            part = part[2] if values[part[0]] else part[1]
        return part

    return {row for row in tuples(len(order)) if walk(tree, dict(zip(order, row)))}


def some_bits(rng, count):
    """A set of tuples of so many bits: thin, thick or in between."""
    part = rng.choice((0, 1, 2, 3, 4))
    return {row for row in tuples(count) if rng.randrange(4) < part}


def named(row, order):
    return dict(zip(order, row))


ORDER = ["b", "a", "d", "c"]


class Planting(unittest.TestCase):
    def same(self, told, wanted):
        """Equal trees, True and False told as such."""
        self.assertEqual(told, wanted)
        self.proper(told)

    def proper(self, tree):
        if not isinstance(tree, bool):
            self.assertIs(type(tree), tuple)
            self.assertEqual(len(tree), 3)
            self.assertIs(type(tree[0]), str)
            self.assertNotEqual(tree[1], tree[2])
            self.proper(tree[1])
            self.proper(tree[2])


class Examples(Planting):
    def test_holds(self):
        tree = ("a", ("b", False, True), True)
        for a, b in tuples(2):
            self.assertIs(holds(tree, {"a": a, "b": b}), bool(a or b))
        for values in ({}, {"a": 0}, {"z": 1}):
            self.assertIs(holds(True, values), True)
            self.assertIs(holds(False, values), False)

    def test_holds_asks_for_no_name_beside_its_way(self):
        tree = ("a", ("b", False, True), True)
        self.assertIs(holds(tree, {"a": 1}), True)
        self.assertIs(holds(tree, {"a": 0, "b": 0, "z": 1}), False)

    def test_both_and_either(self):
        a, b = ("a", False, True), ("b", False, True)
        order = ["a", "b"]
        self.same(both(order, a, b), ("a", False, ("b", False, True)))
        self.same(both(order, b, a), ("a", False, ("b", False, True)))
        self.same(either(order, a, b), ("a", ("b", False, True), True))
        self.same(either(order, b, a), ("a", ("b", False, True), True))
        self.same(both(["b", "a"], a, b), ("b", False, ("a", False, True)))
        self.same(both(order, a, a), a)
        self.same(either(order, b, b), b)
        self.same(both(order, a, ("a", True, False)), False)
        self.same(either(order, a, ("a", True, False)), True)

    def test_true_and_false(self):
        a = ("a", False, True)
        for order in (["a"], ["a", "b"], ["z", "a"]):
            self.same(both(order, a, True), a)
            self.same(both(order, True, a), a)
            self.same(both(order, a, False), False)
            self.same(both(order, False, a), False)
            self.same(either(order, a, True), True)
            self.same(either(order, True, a), True)
            self.same(either(order, a, False), a)
            self.same(either(order, False, a), a)
        for one, other in itertools.product((True, False), repeat=2):
            self.same(both([], one, other), one and other)
            self.same(either([], one, other), one or other)

    def test_opposite(self):
        self.same(opposite(True), False)
        self.same(opposite(False), True)
        self.same(opposite(("a", ("b", False, True), True)), ("a", ("b", True, False), False))

    def test_some_of(self):
        order = ["a", "b", "c"]
        tree = ("a", ("b", False, ("c", False, True)), ("c", True, False))
        self.same(some_of(order, tree, []), tree)
        self.same(some_of(order, tree, ["a"]), ("b", ("c", True, False), True))
        self.same(some_of(order, tree, ["b"]), ("a", ("c", False, True), ("c", True, False)))
        self.same(some_of(order, tree, ["c"]), ("a", ("b", False, True), True))
        self.same(some_of(order, tree, ["c", "a", "b"]), True)
        self.same(some_of(order, False, order), False)
        self.same(some_of(order, True, order), True)

    def test_some_of_names_that_the_tree_has_not(self):
        tree = ("b", False, True)
        self.same(some_of(["a", "b", "c"], tree, ["a", "c"]), tree)
        self.same(some_of(["a", "b", "c"], tree, ["a", "b", "b"]), True)

    def test_put_for(self):
        order = ["a", "b", "c"]
        a, b, c = [(name, False, True) for name in order]
        self.same(put_for(order, a, {"a": b}), b)
        self.same(put_for(order, ("a", False, b), {"a": c}), ("b", False, c))
        self.same(put_for(order, ("a", True, False), {"a": ("b", True, False)}), b)
        self.same(put_for(order, ("a", False, b), {"b": True}), a)
        self.same(put_for(order, ("a", False, b), {"b": False}), False)
        self.same(put_for(order, ("a", False, b), {}), ("a", False, b))

    def test_put_for_all_at_once(self):
        order = ["a", "b"]
        a, b = [(name, False, True) for name in order]
        only_a = ("a", False, ("b", True, False))
        only_b = ("a", ("b", False, True), False)
        self.same(put_for(order, only_a, {"a": b, "b": a}), only_b)
        self.same(put_for(order, only_a, {"b": a, "a": b}), only_b)
        self.same(put_for(order, ("a", False, b), {"a": b, "b": ("a", True, False)}), only_b)

    def test_put_for_names_that_the_tree_has_not(self):
        order = ["a", "b", "c"]
        a, b, c = [(name, False, True) for name in order]
        self.same(put_for(order, a, {"c": a, "b": False}), a)
        self.same(put_for(order, True, {"a": b}), True)
        self.same(put_for(order, False, {"a": b}), False)


class Chance(Planting):
    def test_each_of_the_sets_of_three_bits(self):
        order = ["c", "a", "b"]
        sets = [{row for k, row in enumerate(tuples(3)) if number >> k & 1} for number in range(256)]
        trees = [plain_tree(order, bits) for bits in sets]
        self.assertEqual(len({repr(tree) for tree in trees}), 256)
        everything = set(tuples(3))
        for bits, tree in zip(sets, trees):
            self.same(opposite(tree), plain_tree(order, everything - bits))
            for row in everything:
                self.assertIs(holds(tree, named(row, order)), row in bits)
        rng = random.Random(811)
        for count in range(3000):
            one, other = rng.randrange(256), rng.randrange(256)
            self.same(both(order, trees[one], trees[other]), plain_tree(order, sets[one] & sets[other]))
            self.same(either(order, trees[one], trees[other]), plain_tree(order, sets[one] | sets[other]))

    def test_some_of_drawn_trees(self):
        rng = random.Random(812)
        for count in range(600):
            order = rng.sample(ORDER, rng.randint(1, 4))
            bits = some_bits(rng, len(order))
            gone = rng.sample(order, rng.randint(0, len(order)))
            wanted = set()
            for row in tuples(len(order)):
                alike = [other for other in bits
                         if all(a == b for a, b, name in zip(row, other, order) if name not in gone)]
                if alike:
                    wanted.add(row)
            self.same(some_of(order, plain_tree(order, bits), gone), plain_tree(order, wanted))

    def test_put_for_drawn_trees(self):
        rng = random.Random(813)
        for count in range(600):
            order = rng.sample(ORDER, rng.randint(1, 4))
            bits = some_bits(rng, len(order))
            given = {name: some_bits(rng, len(order)) for name in rng.sample(order, rng.randint(0, len(order)))}
            wanted = set()
            for row in tuples(len(order)):
                put = tuple(int(row in given[name]) if name in given else bit for name, bit in zip(order, row))
                if put in bits:
                    wanted.add(row)
            trees = {name: plain_tree(order, part) for name, part in given.items()}
            self.same(put_for(order, plain_tree(order, bits), trees), plain_tree(order, wanted))

    def test_greater_orders(self):
        rng = random.Random(814)
        order = list("hgfedcba")
        for count in range(12):
            one, other = some_bits(rng, 8), some_bits(rng, 8)
            trees = plain_tree(order, one), plain_tree(order, other)
            self.same(both(order, *trees), plain_tree(order, one & other))
            self.same(either(order, *trees), plain_tree(order, one | other))
            self.same(opposite(trees[0]), plain_tree(order, set(tuples(8)) - one))
            self.assertEqual(bits_of(order, some_of(order, trees[0], order[2:5])), {
                row for row in tuples(8) if any(row[:2] + put + row[5:] in one for put in tuples(3))
            })


class Great(Planting):
    def test_a_sum_of_sixteen_bits(self):
        order = ["n" + letter for letter in "abcdefghijklmnop"]
        tree = False
        for name in order:
            leaf = (name, False, True)
            tree = either(order, both(order, tree, opposite(leaf)), both(order, opposite(tree), leaf))
        rng = random.Random(815)
        for count in range(50):
            values = {name: rng.randrange(2) for name in order}
            self.assertIs(holds(tree, values), sum(values.values()) % 2 == 1)
        self.same(some_of(order, tree, order[7:8]), True)
        self.same(put_for(order, tree, {order[3]: (order[3], True, False)}), opposite(tree))

    def test_an_order_of_two_hundred_names(self):
        letters = "abcdefghijklmnopqrst"
        order = [one + two for one in "abcdefghij" for two in letters]
        every, one_of_them = True, False
        for name in reversed(order):
            every = (name, False, every)
            one_of_them = (name, one_of_them, True)
        self.assertEqual(both(order, every, one_of_them), every)
        self.assertEqual(either(order, every, one_of_them), one_of_them)
        self.assertEqual(opposite(opposite(every)), every)
        self.assertIs(some_of(order, every, order), True)
        self.assertEqual(some_of(order, every, order[1:]), (order[0], False, True))
        turned = {name: (name, True, False) for name in order}
        self.assertEqual(put_for(order, every, turned), opposite(one_of_them))
        self.assertIs(holds(every, dict.fromkeys(order, 1)), True)


class Own(Planting):
    def test_what_is_handed_in_stays(self):
        rng = random.Random(816)
        for count in range(30):
            order = rng.sample(ORDER, 4)
            trees = [plain_tree(order, some_bits(rng, 4)) for k in range(3)]
            given = {order[0]: trees[1], order[2]: trees[2]}
            gone = [order[1], order[3]]
            values = named((0, 1, 1, 0), order)
            handed = copy.deepcopy((order, trees, given, gone, values))
            told = []
            for twice in range(2):
                told.append([both(order, *trees[:2]), either(order, *trees[1:]), opposite(trees[0]),
                             some_of(order, trees[0], gone), put_for(order, trees[0], given), holds(trees[0], values)])
            self.assertEqual(told[0], told[1])
            self.assertEqual((order, trees, given, gone, values), handed)


if __name__ == "__main__":
    unittest.main()
