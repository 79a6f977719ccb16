"""[32], [33]: papers and their checker, by papers written by hand."""

import random
import unittest

from everguard.refuting import clause_behind, refuted
from helper import choice_exists, some_clauses

# No choice keeps these four; the steps come to [2], [-2] and the empty clause, numbers 4, 5, 6.
SQUARE = [[1, 2], [-1, 2], [1, -2], [-1, -2]]
STEPS = [(0, 1, 1), (2, 3, 1), (4, 5, 2)]


def with_step(place, step):
    """The steps with one of them replaced."""
    return STEPS[:place] + [step] + STEPS[place + 1:]


class Right(unittest.TestCase):
    def test_a_paper_without_wants(self):
        self.assertIs(refuted(SQUARE, [], (STEPS, 6)), True)

    def test_wants_that_are_not_needed(self):
        self.assertIs(refuted(SQUARE, [1, -2, 5], (STEPS, 6)), True)

    def test_a_last_clause_of_turned_wants(self):
        self.assertIs(refuted(SQUARE, [-2], (STEPS[:1], 4)), True)
        self.assertIs(refuted(SQUARE, [2], (STEPS[:2], 5)), True)
        self.assertIs(refuted([[1, 2, -3]], [3, -1, -2, 4], ([], 0)), True)

    def test_papers_without_steps(self):
        self.assertIs(refuted([[]], [], ([], 0)), True)
        self.assertIs(refuted([[]], [1], ([], 0)), True)
        self.assertIs(refuted([[1], [-2]], [2], ([], 1)), True)
        self.assertIs(refuted([[1], []], [], ([], 1)), True)

    def test_last_need_not_be_the_last_step(self):
        self.assertIs(refuted(SQUARE, [], (STEPS + [(0, 1, 1)], 6)), True)
        self.assertIs(refuted(SQUARE + [[]], [], (STEPS[:1], 4)), True)
        self.assertIs(refuted(SQUARE + [[]], [], (STEPS[:1], 5)), False)
        self.assertIs(refuted([[]] + SQUARE, [], ([(1, 2, 1)], 0)), True)

    def test_a_step_may_join_a_clause_of_the_steps_with_a_given_one(self):
        clauses = [[1], [-1, 2], [-2, 3], [-3]]
        self.assertIs(refuted(clauses, [], ([(0, 1, 1), (4, 2, 2), (5, 3, 3)], 6)), True)

    def test_numbers_in_both_clauses_are_in_the_steps_one_once(self):
        self.assertIs(refuted([[1, 2, 3], [-1, 2, 3]], [-2, -3], ([(0, 1, 1)], 2)), True)
        self.assertIs(refuted([[1, 2, 3], [-1, 2, 3]], [-2], ([(0, 1, 1)], 2)), False)

    def test_only_the_variable_is_left_out(self):
        self.assertIs(refuted([[1, 2], [-1, 3]], [-2, -3], ([(0, 1, 1)], 2)), True)
        self.assertIs(refuted([[1, 2], [-1, 3]], [-3], ([(0, 1, 1)], 2)), False)
        self.assertIs(refuted([[1, 2], [-1, 3]], [-2], ([(0, 1, 1)], 2)), False)


class Spoilt(unittest.TestCase):
    def wrong(self, steps, last=6, wants=(), clauses=SQUARE):
        self.assertIs(refuted(clauses, list(wants), (steps, last)), False, (steps, last))

    def test_clauses_that_are_not_there_ahead_of_the_step(self):
        self.wrong(with_step(0, (0, 4, 1)))
        self.wrong(with_step(0, (5, 1, 1)))
        self.wrong(with_step(2, (4, 6, 2)))
        self.wrong(with_step(2, (6, 5, 2)))
        self.wrong(with_step(2, (4, 7, 2)))
        self.wrong(with_step(2, (400, 5, 2)))
        self.wrong([(4, 5, 2), (0, 1, 1), (2, 3, 1)])
        self.wrong([(0, 1, 1), (4, 6, 2), (2, 3, 1)], last=5)

    def test_a_clause_that_comes_behind_the_step_though_it_would_fit(self):
        # Number 5 would be [-2] once it is there.
        self.wrong([(0, 1, 1), (4, 6, 2), (2, 3, 1)], last=5)
        self.wrong([(4, 3, 2), (0, 1, 1)], last=4, wants=[1])

    def test_numbers_below_nought(self):
        self.wrong(with_step(0, (-4, 1, 1)))
        self.wrong(with_step(0, (0, -3, 1)))
        self.wrong(with_step(2, (-2, 5, 2)))
        self.wrong(with_step(2, (4, -1, 2)))
        self.wrong(with_step(0, (-1000, 1, 1)))

    def test_variables_that_are_not_above_nought(self):
        # These would fit if the two clauses changed places.
        self.wrong(with_step(0, (1, 0, -1)))
        self.wrong(with_step(2, (5, 4, -2)))
        self.wrong(with_step(0, (0, 1, 0)))
        self.wrong(with_step(0, (0, 1, -1)))

    def test_variables_that_are_not_where_they_must_be(self):
        self.wrong(with_step(0, (1, 0, 1)))
        self.wrong(with_step(2, (5, 4, 2)))
        self.wrong(with_step(0, (0, 1, 2)))
        self.wrong(with_step(0, (0, 1, 3)))
        self.wrong(with_step(0, (0, 0, 1)))
        self.wrong(with_step(0, (1, 1, 1)))
        self.wrong(with_step(0, (0, 2, 1)))
        self.wrong(with_step(2, (4, 5, 1)))

    def test_a_variable_in_one_of_the_two_alone(self):
        self.wrong([(0, 1, 1)], last=2, wants=[-2, -3], clauses=[[1, 2], [3]])
        self.wrong([(0, 1, 1)], last=2, wants=[-2, -3], clauses=[[2], [-1, 3]])

    def test_a_number_beside_its_turned_one(self):
        self.wrong([(0, 3, 1)], last=4, wants=[2])
        self.wrong([(0, 3, 1)] + [(0, 1, 1)], last=5, wants=[-2])
        self.wrong(STEPS + [(0, 3, 1)])
        self.wrong(STEPS + [(0, 3, 2)])

    def test_a_last_number_that_is_none(self):
        for last in (7, 8, 400, -1, -7, -1000):
            self.wrong(STEPS, last=last)
        for last in (1, -1):
            self.wrong([], last=last, clauses=[[]])
        self.wrong([], last=0, clauses=[])
        self.wrong([], last=-1, clauses=[])

    def test_a_last_clause_with_a_number_that_is_no_turned_want(self):
        self.wrong(STEPS, last=4)
        self.wrong(STEPS, last=5)
        self.wrong(STEPS, last=4, wants=[2])
        self.wrong(STEPS, last=5, wants=[-2])
        self.wrong(STEPS, last=4, wants=[1, 3])
        self.wrong([], last=0, wants=[-1])
        self.wrong([], last=0, wants=[-2])
        self.wrong([], last=0, wants=[1, 2])
        self.wrong([], last=3, wants=[1, -2])

    def test_a_wrong_step_on_which_nothing_hangs(self):
        for step in ((0, 7, 1), (-1, 0, 1), (1, 0, -1), (0, 1, 2), (0, 3, 1), (0, 1, 0)):
            self.wrong(STEPS + [step])
        self.wrong([(0, 1, 2)], last=0, clauses=[[], [1]])
        shifted = [(0, 1, 1), (2, 0, 1), (2, 3, 1), (4, 6, 2)]
        self.wrong(shifted, last=7)
        shifted[1] = (0, 1, 1)
        self.assertIs(refuted(SQUARE, [], (shifted, 7)), True)


class Long(unittest.TestCase):
    def test_thousands_of_steps(self):
        steps = [(0, 1, 1)] * 3998 + [(2, 3, 1)]
        steps.append((4 + 1234, 4 + 3998, 2))
        self.assertEqual(len(steps), 4000)
        self.assertIs(refuted(SQUARE, [], (steps, 4003)), True)
        self.assertIs(refuted(SQUARE, [], (steps, 4002)), False)
        self.assertIs(refuted(SQUARE, [], (steps, 4004)), False)
        for place in (0, 1999, 3000, 3998):
            spoilt = list(steps)
            spoilt[place] = (1, 0, 1)
            self.assertIs(refuted(SQUARE, [], (spoilt, 4003)), False)

    def test_each_step_hangs_on_the_one_ahead(self):
        # From [v] by [-v, w] to [w], round and round through sixty variables.
        clauses = [[1]] + [[-v, v % 60 + 1] for v in range(1, 61)]
        steps = [(0, 1, 1)]
        for k in range(1, 4000):
            variable = k % 60 + 1
            steps.append((61 + k - 1, variable, variable))
        self.assertIs(refuted(clauses, [-(4000 % 60 + 1)], (steps, 61 + 3999)), True)
        self.assertIs(refuted(clauses, [4000 % 60 + 1], (steps, 61 + 3999)), False)
        self.assertEqual(clause_behind(clauses, (steps, 61 + 3999)), [4000 % 60 + 1])


class Behind(unittest.TestCase):
    def test_papers_without_steps(self):
        self.assertEqual(clause_behind([[3, -1, 2]], ([], 0)), [-1, 2, 3])
        self.assertEqual(clause_behind([[1], [5, -7, -2, 3]], ([], 1)), [-7, -2, 3, 5])
        self.assertEqual(clause_behind([[]], ([], 0)), [])

    def test_papers_with_steps(self):
        self.assertEqual(clause_behind(SQUARE, (STEPS, 6)), [])
        self.assertEqual(clause_behind(SQUARE, (STEPS, 4)), [2])
        self.assertEqual(clause_behind(SQUARE, (STEPS, 5)), [-2])
        self.assertEqual(clause_behind(SQUARE, (STEPS, 3)), [-2, -1])
        self.assertEqual(clause_behind([[5, 1], [2, -4, -1]], ([(0, 1, 1)], 2)), [-4, 2, 5])
        self.assertEqual(clause_behind([[9, 1, 3], [3, -1, 9]], ([(0, 1, 1)], 2)), [3, 9])

    def test_it_is_the_askers_own(self):
        clauses = [[1, 2], [-1, 2]]
        for last in (0, 2):
            paper = ([(0, 1, 1)], last)
            told = clause_behind(clauses, paper)
            told.append(77)
            self.assertNotIn(77, clause_behind(clauses, paper))
        self.assertEqual(clauses, [[1, 2], [-1, 2]])


class Chance(unittest.TestCase):
    def test_what_is_refuted_has_no_choice(self):
        """Papers by chance: where refuted is True, no choice is there; each step is reckoned anew."""
        rng = random.Random(32)
        found = {True: 0, False: 0}
        for count in range(4000):
            many = rng.randint(1, 4)
            clauses = some_clauses(rng, many, rng.randint(1, 8), 3)
            wants = [rng.choice((1, -1)) * v for v in rng.sample(range(1, many + 1), rng.randint(0, many))]
            steps, known = self.some_steps(rng, clauses, many)
            last = rng.randint(-1, len(clauses) + len(steps))
            right = known is not None and 0 <= last < len(known)
            right = right and all(-number in wants for number in known[last])
            self.assertIs(refuted(clauses, wants, (steps, last)), right)
            found[right] += 1
            if right:
                self.assertFalse(choice_exists(many, clauses, wants))
                self.assertEqual(clause_behind(clauses, (steps, last)), sorted(known[last]))
        self.assertGreater(min(found.values()), 100)

    def some_steps(self, rng, clauses, many):
        """Steps, most of them right, and the clauses behind them; None where one is wrong."""
        known = [set(clause) for clause in clauses]
        steps = []
        for place in range(rng.randint(0, 6)):
            bound = len(clauses) + len(steps)
            fit = [
                (one, other, v)
                for one in range(bound) for other in range(bound) for v in range(1, many + 1)
                if known and v in known[one] and -v in known[other] and self.joined(known, one, other, v)
            ] if known is not None else []
            if fit and rng.randrange(12):
                step = rng.choice(fit)
            else:
                step = (rng.randint(-1, bound), rng.randint(-1, bound), rng.randint(-1, many))
            steps.append(step)
            if known is not None:
                clause = self.joined(known, *step) if self.fits(known, *step) else None
                known = known + [set(clause)] if clause is not None else None
        return steps, known

    def fits(self, known, one, other, variable):
        there = 0 <= one < len(known) and 0 <= other < len(known) and variable > 0
        return there and variable in known[one] and -variable in known[other]

    def joined(self, known, one, other, variable):
        """The step's clause as a list, or None where it has a number beside its turned one."""
        clause = (known[one] - {variable}) | (known[other] - {-variable})
        return None if any(-number in clause for number in clause) else sorted(clause)


if __name__ == "__main__":
    unittest.main()
