"""[31], [32]: the solver of choices, and the papers that it tells."""

import copy
import itertools
import random
import unittest

from everguard.machinetext import read_machine
from everguard.numbers import Numbers
from everguard.refuting import clause_behind, refuted
from everguard.solving import solved
from helper import choice_exists, drawers, keeps, some_clauses, some_machine


class Solving(unittest.TestCase):
    def holds(self, many, clauses, wants):
        """The answer fits, is told again, and nothing handed in is changed; its word."""
        handed = (copy.deepcopy(clauses), list(wants))
        answer = solved(many, clauses, wants)
        self.assertEqual((clauses, wants), handed)
        self.assertIs(type(answer), tuple)
        self.assertEqual(len(answer), 2)
        if answer[0] == "yes":
            self.right_choice(many, clauses, wants, answer[1])
        else:
            self.assertEqual(answer[0], "no")
            self.right_paper(clauses, wants, answer[1])
        self.assertEqual(solved(many, clauses, wants), answer)
        return answer[0]

    def right_choice(self, many, clauses, wants, choice):
        self.assertIs(type(choice), list)
        self.assertEqual(len(choice), many)
        self.assertTrue(all(type(bit) is int and bit in (0, 1) for bit in choice))
        for clause in clauses:
            self.assertTrue(keeps(choice, clause), clause)
        for want in wants:
            self.assertTrue(keeps(choice, [want]), want)

    def right_paper(self, clauses, wants, paper):
        """Walk the paper step by step."""
        self.assertIs(type(paper), tuple)
        steps, last = paper
        self.assertIs(type(steps), list)
        known = [frozenset(clause) for clause in clauses]
        for step in steps:
            self.assertIs(type(step), tuple)
            one, other, variable = step
            self.assertTrue(0 <= one < len(known) and 0 <= other < len(known), step)
            self.assertTrue(variable > 0 and variable in known[one] and -variable in known[other], step)
            clause = (known[one] - {variable}) | (known[other] - {-variable})
            self.assertFalse(any(-number in clause for number in clause), step)
            known.append(clause)
        self.assertTrue(0 <= last < len(known))
        self.assertTrue(all(-number in wants for number in known[last]))
        self.assertIs(refuted(clauses, wants, paper), True)
        self.assertEqual(clause_behind(clauses, paper), sorted(known[last]))


class Edges(Solving):
    def test_many_0(self):
        self.assertEqual(solved(0, [], []), ("yes", []))
        self.assertEqual(self.holds(0, [], []), "yes")
        self.assertEqual(self.holds(0, [[]], []), "no")
        self.assertEqual(self.holds(0, [[], []], []), "no")

    def test_no_clause(self):
        self.assertEqual(self.holds(1, [], []), "yes")
        self.assertEqual(self.holds(60, [], []), "yes")
        self.assertEqual(solved(3, [], [1, -2, 3]), ("yes", [1, 0, 1]))

    def test_an_empty_clause(self):
        self.assertEqual(self.holds(3, [[]], []), "no")
        self.assertEqual(self.holds(3, [[1], [2, 3], []], [1, -2]), "no")
        self.assertEqual(self.holds(3, [[], [1], [-1]], []), "no")

    def test_clauses_of_one_number(self):
        self.assertEqual(solved(2, [[1], [-2]], []), ("yes", [1, 0]))
        self.assertEqual(self.holds(1, [[1], [-1]], []), "no")
        self.assertEqual(self.holds(1, [[-1], [1], [1]], []), "no")
        self.assertEqual(self.holds(1, [[1], [1]], []), "yes")

    def test_a_clause_twice(self):
        self.assertEqual(self.holds(2, [[1, 2], [1, 2], [-1, 2], [-1, 2]], []), "yes")
        self.assertEqual(self.holds(2, [[1, 2], [1, 2], [-1, 2], [-2], [-2]], []), "no")

    def test_wants(self):
        clauses = [[-1, 2], [-2, 3], [-3, -4]]
        self.assertEqual(self.holds(4, clauses, [1]), "yes")
        self.assertEqual(self.holds(4, clauses, [4]), "yes")
        self.assertEqual(self.holds(4, clauses, [1, 4]), "no")
        self.assertEqual(self.holds(4, clauses, [4, 1]), "no")
        self.assertEqual(self.holds(4, clauses, [2, -3]), "no")
        self.assertEqual(self.holds(4, clauses, [-1, -2, -3, -4]), "yes")

    def test_a_want_against_a_clause_of_one_number(self):
        self.assertEqual(self.holds(2, [[1]], [-1]), "no")
        self.assertEqual(self.holds(2, [[2], [-1]], [1, 2]), "no")
        self.assertEqual(self.holds(2, [[1]], [1]), "yes")

    def test_wants_for_all_variables(self):
        clauses = [[1, 2, 3], [-1, -2, -3]]
        for signs in itertools.product((1, -1), repeat=3):
            wants = [sign * v for sign, v in zip(signs, (1, 2, 3))]
            self.assertEqual(self.holds(3, clauses, wants), "no" if len(set(signs)) == 1 else "yes")

    def test_no_without_any_part_of_the_wants(self):
        clauses = [[1, 2], [-1, 2], [1, -2], [-1, -2]]
        self.assertEqual(self.holds(4, clauses, []), "no")
        self.assertEqual(self.holds(4, clauses, [3, -4]), "no")
        paper = solved(4, clauses, [3, -4])[1]
        self.assertEqual(clause_behind(clauses, paper), [])

    def test_variables_in_no_clause(self):
        self.assertEqual(self.holds(60, [[60], [-60, 1]], [-30]), "yes")
        self.assertEqual(self.holds(60, [[60], [-60, 1]], [-1]), "no")


class Chance(Solving):
    def test_held_against_going_through_all_choices(self):
        rng = random.Random(31)
        found = {"yes": 0, "no": 0}
        for count in range(1500):
            many = rng.randint(1, 6)
            clauses = some_clauses(rng, many, rng.randint(0, 6 * many), rng.choice((2, 3, 3, 4)))
            if not rng.randrange(40):
                clauses.insert(rng.randint(0, len(clauses)), [])
            wants = [rng.choice((1, -1)) * v for v in rng.sample(range(1, many + 1), rng.randint(0, many))]
            wants = wants if rng.randrange(2) else []
            wanted = "yes" if choice_exists(many, clauses, wants) else "no"
            self.assertEqual(self.holds(many, clauses, wants), wanted, (many, clauses, wants))
            found[wanted] += 1
        self.assertGreater(min(found.values()), 300)

    def test_clauses_of_three_near_where_yes_and_no_meet(self):
        rng = random.Random(33)
        found = {"yes": 0, "no": 0}
        for count in range(120):
            many = rng.randint(7, 10)
            clauses = [[rng.choice((1, -1)) * v for v in rng.sample(range(1, many + 1), 3)] for k in range(4 * many + 6)]
            wanted = "yes" if choice_exists(many, clauses, []) else "no"
            self.assertEqual(self.holds(many, clauses, []), wanted)
            found[wanted] += 1
        self.assertGreater(min(found.values()), 20)


class Great(Solving):
    def test_hundreds_of_clauses_of_sixty_variables(self):
        rng = random.Random(34)
        found = {"yes": 0, "no": 0}
        for count in range(24):
            clauses = [
                [rng.choice((1, -1)) * v for v in rng.sample(range(1, 61), 3)]
                for k in range(rng.choice((200, 240, 260, 280, 320, 400)))
            ]
            found[self.holds(60, clauses, [])] += 1
        self.assertGreater(min(found.values()), 3)

    def test_a_hidden_choice_is_found(self):
        rng = random.Random(35)
        for count in range(10):
            hidden = [rng.randrange(2) for k in range(60)]
            clauses = []
            while len(clauses) < 400:
                clause = [rng.choice((1, -1)) * v for v in rng.sample(range(1, 61), rng.randint(2, 4))]
                if keeps(hidden, clause):
                    clauses.append(clause)
            self.assertEqual(self.holds(60, clauses, []), "yes")
            wants = [v if hidden[v - 1] else -v for v in rng.sample(range(1, 61), 30)]
            self.assertEqual(self.holds(60, clauses, wants), "yes")

    def test_things_in_drawers(self):
        for places in range(1, 7):
            self.assertEqual(self.holds(*drawers(places + 1, places), []), "no")
            self.assertEqual(self.holds(*drawers(places, places), []), "yes")
        many, clauses = drawers(7, 7)
        self.assertEqual(self.holds(many, clauses, [1, 9, 17]), "yes")
        self.assertEqual(self.holds(many, clauses, [1, 8]), "no")

    def test_odd_sums_round_a_ring_of_triples(self):
        # v, v + 1 and w sum up to a told bit for each place; the bits' sum is odd, so there is no choice.
        for count in (6, 9, 12):
            clauses = []
            for place in range(count):
                numbers = [place + 1, (place + 1) % count + 1, count + place // 2 + 1]
                if place == count - 1 and count % 2:
                    numbers = numbers[:2]
                for signs in itertools.product((0, 1), repeat=len(numbers)):
                    if sum(signs) % 2 != (1 if place == 0 else 0):
                        clauses.append([-v if sign else v for sign, v in zip(signs, numbers)])
            self.assertEqual(self.holds(count + count // 2, clauses, []), "no")

    def test_odd_sums_over_a_tangle(self):
        # Each variable is in two sums of three; one sum alone is odd, so there is no choice, and much must be learnt.
        rng = random.Random(39)
        ends = [place for place in range(40) for k in range(3)]
        while any(ends[k] == ends[k + 1] for k in range(0, 120, 2)):
            rng.shuffle(ends)
        clauses = []
        for place in range(40):
            numbers = [k // 2 + 1 for k in range(120) if ends[k] == place]
            for signs in itertools.product((0, 1), repeat=3):
                if sum(signs) % 2 != (1 if place == 0 else 0):
                    clauses.append([-v if sign else v for sign, v in zip(signs, numbers)])
        self.assertEqual((len(clauses), self.holds(60, clauses, [])), (160, "no"))
        self.assertEqual(self.holds(60, [clause for clause in clauses if 1 not in clause], []), "yes")

    def test_a_long_row_of_reasons(self):
        clauses = [[-v, v + 1] for v in range(1, 60)]
        self.assertEqual(self.holds(60, clauses, [1]), "yes")
        self.assertEqual(solved(60, clauses, [1]), ("yes", [1] * 60))
        self.assertEqual(solved(60, clauses, [-60]), ("yes", [0] * 60))
        self.assertEqual(self.holds(60, clauses, [1, -60]), "no")
        self.assertEqual(self.holds(60, clauses + [[1], [-60]], []), "no")
        # Each variable but the first hangs on all those ahead of it.
        stairs = [[-k for k in range(1, v)] + [v] for v in range(1, 61)] + [[-v for v in range(1, 61)]]
        self.assertEqual(self.holds(60, stairs, []), "no")

    def test_machines_as_clauses(self):
        rng = random.Random(36)
        for count in range(20):
            made = some_machine(rng, 12, 16, 60)
            numbers = Numbers(made)
            for name, one, other in made.gates[-6:]:
                for literal in (name, "~" + name):
                    self.holds(numbers.many(), numbers.clauses(), [numbers.number(literal)])

    def test_a_gate_that_is_never_1(self):
        numbers = Numbers(read_machine("switch a\nswitch b\ngate g a b\ngate h ~a b\ngate i g h\ngate j 0 a"))
        for literal in ("i", "j", "0"):
            self.assertEqual(self.holds(numbers.many(), numbers.clauses(), [numbers.number(literal)]), "no")
        for literal in ("g", "h", "~i", "1"):
            self.assertEqual(self.holds(numbers.many(), numbers.clauses(), [numbers.number(literal)]), "yes")


class Own(Solving):
    def test_the_same_question_is_told_the_same_behind_others(self):
        rng = random.Random(37)
        asked = []
        for count in range(30):
            many = rng.randint(1, 12)
            clauses = some_clauses(rng, many, rng.randint(0, 5 * many), 3)
            wants = [rng.choice((1, -1)) * v for v in rng.sample(range(1, many + 1), rng.randint(0, 2))]
            asked.append((many, clauses, wants))
        told = [copy.deepcopy(solved(*question)) for question in asked]
        self.assertEqual({answer[0] for answer in told}, {"yes", "no"})
        for place in rng.sample(range(len(asked)), len(asked)):
            answer = solved(*asked[place])
            self.assertEqual(answer, told[place])
            # What was told is changed, and asked for again.
            if answer[0] == "yes":
                answer[1].clear()
            else:
                answer[1][0].clear()
            self.assertEqual(solved(*asked[place]), told[place])

    def test_spoilt_papers_of_its_own_are_not_taken(self):
        many, clauses = drawers(5, 4)
        steps, last = solved(many, clauses, [])[1]
        self.assertIs(refuted(clauses, [], (steps, last)), True)
        self.assertIs(refuted(clauses, [], (steps[: last - len(clauses)], last)), False)
        rng = random.Random(38)
        for place in rng.sample(range(len(steps)), min(25, len(steps))):
            one, other, variable = steps[place]
            own = len(clauses) + place
            for step in ((other, one, variable), (one, own, variable), (own, other, variable), (one, other, -variable),
                         (one, other, 0), (-1, other, variable), (one, -1, variable), (one, other, many + 1)):
                spoilt = steps[:place] + [step] + steps[place + 1:]
                self.assertIs(refuted(clauses, [], (spoilt, last)), False, (place, step))


if __name__ == "__main__":
    unittest.main()
