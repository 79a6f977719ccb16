"""[42]: runs of so many inputs as clauses."""

import itertools
import random
import unittest

from everguard.machines import Machine
from everguard.machinetext import read_machine
from everguard.solving import solved
from everguard.steps import Steps
from helper import bit_of, fields, keeps, reckoned, reckoned_firsts, reckoned_step, some_machine, tangled_machine, tuples


def runs(machine, many):
    """All (first, row) of so many inputs from first stands."""
    rows = [list(row) for row in itertools.product(tuples(len(machine.switches)), repeat=many)]
    return [(first, row) for first in reckoned_firsts(machine) for row in rows]


def values_along(machine, first, row):
    """The values at each step of the run."""
    told = []
    stand = first
    for inputs in row:
        told.append(reckoned(machine, stand, inputs))
        stand = reckoned_step(machine, stand, inputs)
    return told


def all_literals(machine):
    """Each literal, turned ones, 0 and 1 too."""
    named = machine.switches + list(machine.keepers) + [gate[0] for gate in machine.gates]
    return named + ["~" + name for name in named] + ["0", "1"]


class Stepping(unittest.TestCase):
    def asked(self, steps, numbers):
        """A choice that keeps the clauses and in which all the numbers are so, or None."""
        clauses = steps.clauses() + [[number] for number in numbers]
        answer = solved(steps.many(), clauses, [])
        return answer[1] if answer[0] == "yes" else None

    def numbers_of(self, machine, steps, first, row):
        """The numbers that say where a run begins and what its inputs are."""
        told = [steps.number(name if bit else "~" + name, 0) for name, bit in zip(machine.keepers, first)]
        for k, inputs in enumerate(row):
            told += [steps.number(name if bit else "~" + name, k) for name, bit in zip(machine.switches, inputs)]
        return told

    def is_the_run(self, machine, steps, choice, first, row):
        """Each literal at each step is as in the run."""
        self.assertEqual(steps.run_of(choice), (first, row))
        for k, values in enumerate(values_along(machine, first, row)):
            for literal in all_literals(machine):
                self.assertEqual(keeps(choice, [steps.number(literal, k)]), bit_of(values, literal) == 1, (literal, k))


class Forms(Stepping):
    def test_kinds(self):
        machine = read_machine("switch a\nkeep k 0\nkeep m -\ngate g a ~k\ngate h 1 g\nnext k h\nnext m 0\nnever w k")
        steps = Steps(machine, 3)
        self.assertIs(type(steps.many()), int)
        self.assertIs(type(steps.clauses()), list)
        for clause in steps.clauses():
            self.assertIs(type(clause), list)
            self.assertTrue(all(type(number) is int for number in clause))
        answer = solved(steps.many(), steps.clauses(), [])
        self.assertEqual(answer[0], "yes")
        told = steps.run_of(answer[1])
        self.assertIs(type(told), tuple)
        self.assertIs(type(told[0]), tuple)
        self.assertIs(type(told[1]), list)
        self.assertEqual(([type(part) for part in told[1]], len(told[1])), ([tuple] * 3, 3))

    def test_clauses_are_such_as_may_be_handed_in(self):
        rng = random.Random(421)
        for count in range(60):
            machine = some_machine(rng, rng.randint(0, 3), rng.randint(0, 4), rng.randint(0, 12))
            many = rng.randint(1, 4)
            steps = Steps(machine, many)
            for clause in steps.clauses():
                self.assertEqual(len({abs(number) for number in clause}), len(clause), clause)
                self.assertTrue(all(1 <= abs(number) <= steps.many() for number in clause), clause)
            for literal in all_literals(machine):
                for k in range(many):
                    self.assertTrue(1 <= abs(steps.number(literal, k)) <= steps.many())

    def test_a_machine_of_nothing(self):
        steps = Steps(Machine([], {}, [], {}, {}, {}), 2)
        choice = self.asked(steps, [])
        self.assertEqual(steps.run_of(choice), ((), [(), ()]))
        for k in (0, 1):
            self.assertTrue(keeps(choice, [steps.number("1", k)]))
            self.assertFalse(keeps(choice, [steps.number("0", k)]))
            self.assertIsNone(self.asked(steps, [steps.number("0", k)]))


class Runs(Stepping):
    def test_one_input(self):
        machine = read_machine("switch a\nkeep k 1\nkeep m -\ngate g a k\nnext k 0\nnext m g")
        steps = Steps(machine, 1)
        for first, row in runs(machine, 1):
            choice = self.asked(steps, self.numbers_of(machine, steps, first, row))
            self.is_the_run(machine, steps, choice, first, row)
        self.assertIsNone(self.asked(steps, [steps.number("~k", 0)]))

    def test_a_keeper_without_next_stays(self):
        machine = read_machine("keep k -\nkeep m 1")
        steps = Steps(machine, 3)
        for here, there in itertools.product(range(3), repeat=2):
            self.assertIsNone(self.asked(steps, [steps.number("k", here), steps.number("~k", there)]))
            self.assertIsNone(self.asked(steps, [steps.number("k", here), steps.number("~m", there)]))
        self.assertEqual(steps.run_of(self.asked(steps, [steps.number("k", 2)])), ((1, 1), [(), (), ()]))
        self.assertEqual(steps.run_of(self.asked(steps, [steps.number("~k", 2)])), ((0, 1), [(), (), ()]))

    def test_nexts_that_are_0_1_turned_or_one_another(self):
        machine = read_machine(
            "keep a 0\nkeep b 1\nkeep c 0\nkeep d 0\nkeep e 1\nnext a 1\nnext b 0\nnext c ~c\nnext d e\nnext e d"
        )
        steps = Steps(machine, 3)
        choice = self.asked(steps, [])
        self.is_the_run(machine, steps, choice, (0, 1, 0, 0, 1), [(), (), ()])

    def test_the_last_input_leads_to_none(self):
        machine = read_machine("switch a\nkeep k 0\nnext k a")
        steps = Steps(machine, 2)
        for bits in tuples(2):
            choice = self.asked(steps, [steps.number("a" if bit else "~a", k) for k, bit in enumerate(bits)])
            self.assertEqual(steps.run_of(choice), ((0,), [(bits[0],), (bits[1],)]))
            self.assertEqual(keeps(choice, [steps.number("k", 1)]), bits[0] == 1)

    def test_all_choices_gone_through(self):
        rng = random.Random(422)
        seen = 0
        for count in range(400):
            machine = some_machine(rng, rng.randint(0, 2), rng.randint(0, 2), rng.randint(0, 3))
            many = rng.randint(1, 3)
            steps = Steps(machine, many)
            if steps.many() > 12:
                continue
            seen += 1
            clauses = steps.clauses()
            met = []
            for choice in tuples(steps.many()):
                if all(keeps(choice, clause) for clause in clauses):
                    first, row = steps.run_of(list(choice))
                    self.is_the_run(machine, steps, choice, first, row)
                    met.append((first, row))
            # Each run is met, and nothing but runs from first stands.
            self.assertEqual(sorted((first, tuple(row)) for first, row in runs(machine, many)),
                             sorted({(first, tuple(row)) for first, row in met}))
        self.assertGreater(seen, 80)

    def test_all_runs_of_up_to_three_inputs(self):
        rng = random.Random(423)
        for count in range(60):
            made = some_machine if count % 2 else tangled_machine
            machine = made(rng, rng.randint(0, 2), rng.randint(1, 3), rng.randint(0, 9))
            for many in (1, 2, 3):
                steps = Steps(machine, many)
                wanted = runs(machine, many)
                for first, row in rng.sample(wanted, min(8, len(wanted))):
                    numbers = self.numbers_of(machine, steps, first, row)
                    choice = self.asked(steps, numbers)
                    self.is_the_run(machine, steps, choice, first, row)
                    # With the same beginning and inputs no literal can be otherwise.
                    values = values_along(machine, first, row)
                    literal, k = rng.choice(all_literals(machine)), rng.randrange(many)
                    number = steps.number(literal, k)
                    wrong = -number if bit_of(values[k], literal) else number
                    self.assertIsNone(self.asked(steps, numbers + [wrong]))

    def test_no_run_from_another_stand(self):
        rng = random.Random(424)
        seen = 0
        for count in range(60):
            machine = some_machine(rng, rng.randint(0, 2), rng.randint(1, 3), rng.randint(0, 6))
            steps = Steps(machine, rng.randint(1, 3))
            firsts = reckoned_firsts(machine)
            for stand in tuples(len(machine.keepers)):
                choice = self.asked(steps, self.numbers_of(machine, steps, stand, []))
                self.assertEqual(choice is not None, stand in firsts)
                seen += stand not in firsts
        self.assertGreater(seen, 50)

    def test_as_great_as_it_may_be(self):
        rng = random.Random(425)
        for count in range(4):
            machine = some_machine(rng, 12, 16, 60)
            steps = Steps(machine, 6)
            row = [tuple(rng.randrange(2) for k in range(12)) for j in range(6)]
            first = tuple(rng.randrange(2) if bit is None else bit for bit in machine.keepers.values())
            choice = self.asked(steps, self.numbers_of(machine, steps, first, row))
            self.is_the_run(machine, steps, choice, first, row)


class Own(Stepping):
    def test_what_was_told_may_be_changed(self):
        machine = read_machine("switch a\nkeep k 0\ngate g a a\nnext k g\nnever w k")
        before = fields(machine)
        steps = Steps(machine, 2)
        wanted = [list(clause) for clause in steps.clauses()]
        told = steps.clauses()
        for clause in told:
            clause.append(99)
        told.clear()
        self.assertEqual(steps.clauses(), wanted)
        self.assertEqual(Steps(machine, 2).clauses(), wanted)
        choice = self.asked(steps, [])
        kept = list(choice)
        run = steps.run_of(choice)
        again = steps.run_of(choice)
        run[1].clear()
        self.assertEqual(steps.run_of(choice), again)
        self.assertEqual(choice, kept)
        self.assertEqual(fields(machine), before)

    def test_no_two_lists_are_one(self):
        steps = Steps(read_machine("switch a\nkeep k 0\nkeep m 0\ngate g a a\nnext k 0\nnext m 0"), 3)
        one, other = steps.clauses(), steps.clauses()
        lists = [one, other] + one + other
        self.assertEqual(len({id(told) for told in lists}), len(lists))


if __name__ == "__main__":
    unittest.main()
