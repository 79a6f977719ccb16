"""[43]: shortest rows up to a length, and papers that there is none."""

import copy
import random
import unittest

from everguard.machines import Machine
from everguard.machinetext import read_machine
from everguard.rows import none_shown, shortest_row
from everguard.running import comes_there
from everguard.steps import Steps
from helper import (
    bit_of, counter_machine, fields, reckoned, reckoned_firsts, reckoned_step, refutes, shortest_count, some_machine,
    tangled_machine, wish_literal,
)


def chain_machine(count):
    """Keepers that hand a switch's bit on, one to the other: `last` comes to be behind as many inputs, and one more."""
    named = ["k" + chr(ord("a") + place) for place in range(count)]
    nexts = dict(zip(named, ["push"] + named))
    return Machine(["push"], dict.fromkeys(named, 0), [], nexts, {"last": named[-1]}, {"day": named[-1]})


class Rowing(unittest.TestCase):
    def comes(self, machine, wish, first, row):
        """Walk the row by the test's own steps."""
        self.assertIs(type(first), tuple)
        self.assertIs(type(row), list)
        self.assertIn(first, reckoned_firsts(machine) if len(machine.keepers) < 9 else [first])
        stand = first
        for told in row[:-1]:
            stand = reckoned_step(machine, stand, told)
        self.assertEqual(bit_of(reckoned(machine, stand, row[-1]), wish_literal(machine, wish)), 1)
        self.assertIs(comes_there(machine, wish, first, row), True)

    def fits(self, machine, wish, most, wanted):
        """The answer is right, where a shortest row has `wanted` inputs (None for none); the answer."""
        before = fields(machine)
        answer = shortest_row(machine, wish, most)
        self.assertIs(type(answer), tuple)
        if wanted is not None and wanted <= most:
            self.assertEqual((answer[0], len(answer)), ("row", 3))
            self.assertEqual(len(answer[2]), wanted)
            self.comes(machine, wish, answer[1], answer[2])
        else:
            self.assertEqual((answer[0], len(answer)), ("none", 2))
            self.right_papers(machine, wish, most, answer[1])
        self.assertEqual(shortest_row(machine, wish, most), answer)
        self.assertEqual(fields(machine), before)
        return answer

    def right_papers(self, machine, wish, most, papers):
        """One paper for each length, each walked step by step."""
        self.assertIs(type(papers), list)
        self.assertEqual(len(papers), max(most, 0))
        for length, paper in enumerate(papers, start=1):
            steps = Steps(machine, length)
            want = steps.number(wish_literal(machine, wish), length - 1)
            self.assertTrue(refutes(steps.clauses(), [want], paper), length)
        if most >= 0:
            self.assertIs(none_shown(machine, wish, most, papers), True)


class Rows(Rowing):
    def test_a_row_of_one_input(self):
        machine = read_machine("switch a\nnever w a\nsome v ~a\nnever x 1")
        self.assertEqual(shortest_row(machine, "w", 1), ("row", (), [(1,)]))
        self.assertEqual(shortest_row(machine, "v", 5), ("row", (), [(0,)]))
        self.fits(machine, "x", 3, 1)

    def test_the_length_is_just_enough_or_one_too_few(self):
        for count in (1, 2, 5, 9):
            machine = chain_machine(count)
            for wish in ("last", "day"):
                self.fits(machine, wish, count, count + 1)
                self.fits(machine, wish, count + 1, count + 1)
                self.fits(machine, wish, count + 7, count + 1)

    def test_first_bits_that_may_be_either(self):
        machine = read_machine("keep a -\nkeep b 0\nnext b a\nnever w b\nnever v a")
        self.fits(machine, "w", 4, 2)
        self.fits(machine, "w", 1, 2)
        self.fits(machine, "v", 1, 1)

    def test_none_ever(self):
        machine = read_machine("switch a\nkeep k 0\ngate g a ~a\nnext k k\nnever w k\nnever z 0\nsome s g")
        for wish in ("w", "z", "s"):
            for most in (1, 2, 6):
                self.fits(machine, wish, most, None)

    def test_most_below_1(self):
        machine = read_machine("switch a\nnever w a\nsome v 1\nnever z 0")
        for wish in ("w", "v", "z"):
            for most in (0, -1, -7):
                self.assertEqual(shortest_row(machine, wish, most), ("none", []))

    def test_drawn_machines(self):
        rng = random.Random(431)
        met = {"row": 0, "none": 0, "late": 0}
        for count in range(160):
            made = some_machine if count % 2 else tangled_machine
            machine = made(rng, rng.randint(0, 3), rng.randint(1, 5), rng.randint(4, 16))
            for wish in list(machine.nevers) + list(machine.somes):
                wanted = shortest_count(machine, wish)
                answer = self.fits(machine, wish, rng.randint(0, 8), wanted)
                met[answer[0]] += 1
                met["late"] += answer[0] == "row" and len(answer[2]) > 2
        self.assertGreater(min(met.values()), 10, met)

    def test_a_count_up_to_all_ones(self):
        for bits in (2, 3, 5):
            machine = counter_machine(bits)
            for wish in ("full", "half"):
                self.fits(machine, wish, 2 ** bits - 1, 2 ** bits)
                self.fits(machine, wish, 2 ** bits, 2 ** bits)

    def test_stands_far_too_many_to_be_gone_through(self):
        self.fits(chain_machine(16), "last", 20, 17)
        self.fits(chain_machine(16), "day", 16, 17)
        self.fits(counter_machine(16), "full", 30, None)
        rng = random.Random(432)
        for count in range(12):
            made = some_machine if count % 2 else tangled_machine
            machine = made(rng, 12, 16, 60)
            for wish in list(machine.nevers) + list(machine.somes):
                answer = shortest_row(machine, wish, 5)
                if answer[0] == "row":
                    self.comes(machine, wish, answer[1], answer[2])
                    shorter = len(answer[2]) - 1
                    self.right_papers(machine, wish, shorter, shortest_row(machine, wish, shorter)[1])
                else:
                    self.right_papers(machine, wish, 5, answer[1])


class Shown(Rowing):
    def test_none_of_0(self):
        machine = read_machine("switch a\nnever w a\nsome v a")
        for wish in ("w", "v"):
            self.assertIs(none_shown(machine, wish, 0, []), True)
            self.assertIs(none_shown(machine, wish, 0, [([], 0)]), False)
            self.assertIs(none_shown(machine, wish, 1, []), False)

    def test_papers_too_few_or_too_many(self):
        machine = chain_machine(4)
        papers = shortest_row(machine, "last", 4)[1]
        for most in range(7):
            for count in range(5):
                self.assertIs(none_shown(machine, "last", most, papers[:count]), most == count, (most, count))
        self.assertIs(none_shown(machine, "last", 4, papers + papers[-1:]), False)
        self.assertIs(none_shown(machine, "last", 5, papers + papers[-1:]), False)

    def test_a_paper_of_another_length_wish_or_machine(self):
        machine = chain_machine(5)
        papers = shortest_row(machine, "last", 5)[1]
        self.assertIs(none_shown(machine, "last", 5, papers), True)
        self.assertIs(none_shown(machine, "day", 5, papers), True)
        self.assertIs(none_shown(machine, "last", 5, papers[1:] + papers[:1]), False)
        self.assertIs(none_shown(chain_machine(4), "last", 5, papers), False)

    def test_never_true_where_a_row_comes_there(self):
        rng = random.Random(433)
        seen = 0
        for count in range(40):
            machine = tangled_machine(rng, rng.randint(0, 2), rng.randint(1, 4), rng.randint(6, 14))
            papers = {wish: shortest_row(machine, wish, 4) for wish in machine.nevers}
            for wish in machine.nevers:
                wanted = shortest_count(machine, wish)
                for other in machine.nevers:
                    if papers[other][0] == "none" and wanted is not None and wanted <= 4:
                        self.assertIs(none_shown(machine, wish, 4, papers[other][1]), False)
                        seen += 1
        self.assertGreater(seen, 10)

    def test_spoilt_papers(self):
        machine = chain_machine(3)
        papers = shortest_row(machine, "last", 3)[1]
        seen = 0
        for place, (steps, last) in enumerate(papers):
            made = Steps(machine, place + 1)
            want = made.number(machine.nevers["last"], place)
            spoilt = [(steps, last + 1), (steps, -1), (steps, 10 ** 9), (steps + [(0, 0, 1)], last), (steps[:-1], last)]
            for k, (one, other, variable) in enumerate(steps):
                for step in ((10 ** 9, other, variable), (one, -1, variable), (one, other, 0), (other, one, variable)):
                    spoilt.append((steps[:k] + [step] + steps[k + 1:], last))
            for paper in spoilt:
                told = papers[:place] + [paper] + papers[place + 1:]
                wanted = refutes(made.clauses(), [want], paper)
                self.assertIs(none_shown(machine, "last", 3, told), wanted, paper)
                seen += not wanted
        self.assertGreater(seen, 10)

    def test_papers_handed_in_stay(self):
        machine = chain_machine(3)
        papers = shortest_row(machine, "last", 3)[1]
        before = (copy.deepcopy(papers), fields(machine))
        none_shown(machine, "last", 3, papers)
        none_shown(machine, "last", 2, papers)
        self.assertEqual((papers, fields(machine)), before)


class Own(Rowing):
    def test_what_was_told_may_be_changed(self):
        for machine, most in ((chain_machine(3), 6), (chain_machine(6), 4), (counter_machine(4), 9)):
            wish = list(machine.nevers)[0]
            answer = shortest_row(machine, wish, most)
            wanted = copy.deepcopy(answer)
            if answer[0] == "row":
                answer[2].clear()
            else:
                for steps, last in answer[1]:
                    steps.append("spoilt")
                answer[1].reverse()
            self.assertEqual(shortest_row(machine, wish, most), wanted)

    def test_no_two_lists_are_one(self):
        machine = read_machine("switch a\nnever w 0")
        told = [shortest_row(machine, "w", 4)[1] for count in range(2)]
        lists = told + [paper[0] for papers in told for paper in papers]
        self.assertEqual(len({id(part) for part in lists}), len(lists))


if __name__ == "__main__":
    unittest.main()
