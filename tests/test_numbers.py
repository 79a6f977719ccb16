"""[41]: machines as clauses."""

import random
import unittest

from everguard.machinetext import read_machine
from everguard.numbers import Numbers
from helper import bit_of, keeps, reckoned, some_machine, tuples


class Variables(unittest.TestCase):
    def test_switches_keepers_gates_and_behind_them_the_literal_1(self):
        made = Numbers(read_machine("keep k 0\nswitch b\ngate g b k\nswitch a\nkeep c 1\ngate h ~g 1"))
        told = [made.number(literal) for literal in ("b", "a", "k", "c", "g", "h", "1")]
        self.assertEqual(told, [1, 2, 3, 4, 5, 6, 7])
        self.assertEqual(made.many(), 7)

    def test_turned_literals(self):
        made = Numbers(read_machine("switch a\nkeep k -\ngate g a k"))
        self.assertEqual([made.number(literal) for literal in ("~a", "~k", "~g")], [-1, -2, -3])
        self.assertEqual((made.number("0"), made.number("1")), (-4, 4))

    def test_a_machine_of_nothing(self):
        made = Numbers(read_machine(""))
        self.assertEqual((made.many(), made.number("1"), made.number("0"), made.clauses()), (1, 1, -1, [[1]]))

    def test_a_machine_without_gates(self):
        made = Numbers(read_machine("switch a\nkeep k 0\nnext k a\nnever w k"))
        self.assertEqual((made.many(), made.clauses()), (3, [[3]]))


class Clauses(unittest.TestCase):
    def clauses(self, *gates):
        """The clauses of a machine with a, b as 1, 2, and its gates from 3 on."""
        return Numbers(read_machine("\n".join(("switch a", "keep b -") + gates))).clauses()

    def test_a_gate(self):
        self.assertEqual(self.clauses("gate g a b"), [[-3, 1], [-3, 2], [3, -1, -2], [4]])

    def test_literals_in_their_order_and_turned(self):
        self.assertEqual(self.clauses("gate g b ~a"), [[-3, 2], [-3, -1], [3, -2, 1], [4]])
        self.assertEqual(self.clauses("gate g ~b ~a"), [[-3, -2], [-3, -1], [3, 2, 1], [4]])

    def test_gates_in_their_order(self):
        wanted = [[-3, 1], [-3, 2], [3, -1, -2], [-4, -3], [-4, 1], [4, 3, -1], [5]]
        self.assertEqual(self.clauses("gate g a b", "gate f ~g a"), wanted)

    def test_one_literal_twice(self):
        self.assertEqual(self.clauses("gate g a a"), [[-3, 1], [-3, 1], [3, -1], [4]])
        self.assertEqual(self.clauses("gate g ~b ~b"), [[-3, -2], [-3, -2], [3, 2], [4]])

    def test_a_literal_beside_its_turned_one(self):
        self.assertEqual(self.clauses("gate g a ~a"), [[-3, 1], [-3, -1], [4]])
        self.assertEqual(self.clauses("gate g ~b b"), [[-3, -2], [-3, 2], [4]])

    def test_0_and_1(self):
        self.assertEqual(self.clauses("gate g a 0"), [[-3, 1], [-3, -4], [3, -1, 4], [4]])
        self.assertEqual(self.clauses("gate g 1 b"), [[-3, 4], [-3, 2], [3, -4, -2], [4]])
        self.assertEqual(self.clauses("gate g 0 1"), [[-3, -4], [-3, 4], [4]])
        self.assertEqual(self.clauses("gate g 1 0"), [[-3, 4], [-3, -4], [4]])
        self.assertEqual(self.clauses("gate g 0 0"), [[-3, -4], [-3, -4], [3, 4], [4]])
        self.assertEqual(self.clauses("gate g 1 1"), [[-3, 4], [-3, 4], [3, -4], [4]])

    def test_choices_that_keep_them_are_the_machines_values(self):
        rng = random.Random(41)
        for count in range(60):
            made = some_machine(rng, rng.randint(0, 2), rng.randint(0, 2), rng.randint(0, 5))
            numbers = Numbers(made)
            clauses = numbers.clauses()
            named = made.switches + list(made.keepers) + [gate[0] for gate in made.gates]
            self.assertEqual([numbers.number(name) for name in named], list(range(1, len(named) + 1)))
            right = []
            for stand in tuples(len(made.keepers)):
                for told in tuples(len(made.switches)):
                    values = reckoned(made, stand, told)
                    right.append(tuple(values[name] for name in named) + (1,))
            kept = [choice for choice in tuples(numbers.many()) if all(keeps(choice, clause) for clause in clauses)]
            self.assertEqual(kept, sorted(right))
            for choice in kept:
                values = dict(zip(named, choice))
                for name in named:
                    for literal in (name, "~" + name, "0", "1"):
                        self.assertEqual(keeps(choice, [numbers.number(literal)]), bit_of(values, literal) == 1)

    def test_as_great_as_it_may_be(self):
        made = some_machine(random.Random(42), 12, 16, 60)
        numbers = Numbers(made)
        self.assertEqual(numbers.many(), 89)
        self.assertEqual(numbers.number("1"), 89)
        self.assertEqual(numbers.clauses()[-1], [89])


class Own(unittest.TestCase):
    def test_clauses_told_are_the_askers_own(self):
        made = read_machine("switch a\nswitch b\ngate g a b\ngate h a a")
        numbers = Numbers(made)
        wanted = [list(clause) for clause in numbers.clauses()]
        told = numbers.clauses()
        for clause in told:
            clause.append(99)
        told.clear()
        self.assertEqual(numbers.clauses(), wanted)
        self.assertEqual(Numbers(made).clauses(), wanted)
        self.assertEqual((numbers.many(), numbers.number("g")), (5, 3))

    def test_no_two_lists_are_one(self):
        numbers = Numbers(read_machine("switch a\ngate g a a\ngate h a a\ngate z 0 0"))
        one = numbers.clauses()
        other = numbers.clauses()
        lists = [one, other] + one + other
        self.assertEqual(len({id(told) for told in lists}), len(lists))


if __name__ == "__main__":
    unittest.main()
