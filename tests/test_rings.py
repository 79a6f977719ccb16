"""[71], [72]: rings of steps, and their papers."""

import copy
import itertools
import random
import unittest

from everguard.machines import Machine
from everguard.machinetext import read_machine
from everguard.rings import pair_clauses, ring_answer, ring_shown, way_clauses
from everguard.rows import shortest_row
from everguard.running import comes_there
from everguard.solving import solved
from everguard.steps import Steps
from helper import (
    bit_of, counter_machine, fields, reckoned, reckoned_firsts, reckoned_step, shortest_count, small_machines,
    some_machine, tangled_machine, tuples,
)


def has_ring(machine, wish, k):
    """Whether there is no run of k + 1 inputs as [71] has it, by going through all runs of unlike stands."""
    ends, goes = {}, {}
    for stand in tuples(len(machine.keepers)):
        ends[stand], goes[stand] = False, set()
        for told in tuples(len(machine.switches)):
            if bit_of(reckoned(machine, stand, told), machine.nevers[wish]):
                ends[stand] = True
            else:
                goes[stand].add(reckoned_step(machine, stand, told))

    def goes_on(way):
        if len(way) == k + 1:
            return ends[way[-1]]
        return any(goes_on(way + [stand]) for stand in goes[way[-1]] if stand not in way)

    return not any(goes_on([stand]) for stand in ends)


def least_ring(machine, wish, most):
    """The least k from 1 to most of which it has the ring, or None."""
    return next((k for k in range(1, most + 1) if has_ring(machine, wish, k)), None)


def late_machine(count):
    """A chain of keepers into which nothing but 0 is handed: the wish of its last one has the ring of as many steps."""
    named = ["k" + chr(ord("a") + place) for place in range(count)]
    nexts = dict(zip(named[1:], named))
    nexts[named[0]] = "0"
    return Machine(["s"], dict.fromkeys(named, 0), [], nexts, {"w": named[-1]}, {})


def changed_numbers(rng, told):
    """What was told with one number in it changed, or one thing of a list left out or put twice."""
    if isinstance(told, int):
        return rng.choice((told + 1, told - 1, -told, 0, told + 10 ** 9))
    if not told:
        return told
    place = rng.randrange(len(told))
    if isinstance(told, list) and not rng.randrange(6):
        return told[:place] + told[place + 1:]
    if isinstance(told, list) and not rng.randrange(6):
        return told[:place] + [told[place]] + told[place:]
    parts = list(told)
    parts[place] = changed_numbers(rng, parts[place])
    return tuple(parts) if isinstance(told, tuple) else parts


class Ringing(unittest.TestCase):
    def fits(self, machine, wish, most):
        """The answer is right by the test's own reckoning, and told again; the answer."""
        before = fields(machine)
        answer = ring_answer(machine, wish, most)
        self.assertIs(type(answer), tuple)
        count = shortest_count(machine, wish)
        ring = least_ring(machine, wish, most)
        if count is not None and count <= most:
            self.assertEqual((answer[0], len(answer)), ("row", 3))
            self.row_comes(machine, wish, answer[1], answer[2], count)
        elif ring is not None:
            self.assertEqual((answer[0], len(answer), answer[1]), ("ring", 3, ring))
            self.assertIs(type(answer[1]), int)
            self.shown(machine, wish, answer[1], answer[2])
        else:
            self.assertEqual(answer, ("open",))
        self.assertEqual(ring_answer(machine, wish, most), answer)
        self.assertEqual(fields(machine), before)
        return answer

    def row_comes(self, machine, wish, first, row, count):
        self.assertIn(first, reckoned_firsts(machine))
        self.assertEqual((type(row), len(row)), (list, count))
        stand = first
        for told in row[:-1]:
            stand = reckoned_step(machine, stand, told)
        self.assertEqual(bit_of(reckoned(machine, stand, row[-1]), machine.nevers[wish]), 1)
        self.assertIs(comes_there(machine, wish, first, row), True)

    def shown(self, machine, wish, k, papers):
        """The papers are taken, and stay as they are."""
        handed = copy.deepcopy(papers)
        self.assertIs(ring_shown(machine, wish, k, papers), True)
        self.assertEqual(papers, handed)


class Examples(Ringing):
    def test_rings_of_one_step(self):
        machine = read_machine("switch s\nkeep k 0\ngate g s ~s\nnever z 0\nnever g g\nnever k k")
        for wish in ("z", "g", "k"):
            for most in (1, 2, 5):
                self.assertEqual(self.fits(machine, wish, most)[:2], ("ring", 1))

    def test_longer_rings(self):
        for count in (1, 2, 3, 4, 5):
            machine = late_machine(count)
            for most in range(count + 3):
                answer = self.fits(machine, "w", most)
                self.assertEqual(answer[:2], ("ring", count) if most >= count else ("open",))

    def test_rows(self):
        machine = read_machine("switch s\nkeep a 0\nkeep b 0\nnext a s\nnext b a\nnever w b\nnever s s\nnever o 1")
        self.assertEqual(self.fits(machine, "w", 3)[0], "row")
        self.assertEqual(self.fits(machine, "w", 9)[0], "row")
        self.assertEqual(self.fits(machine, "w", 2), ("open",))
        self.assertEqual(self.fits(machine, "s", 1)[0], "row")
        self.assertEqual(self.fits(machine, "o", 1)[0], "row")

    def test_most_below_1(self):
        machine = read_machine("switch s\nkeep k 0\nnever s s\nnever z 0\nnever k k")
        for wish in ("s", "z", "k"):
            for most in (0, -1, -5):
                self.assertEqual(ring_answer(machine, wish, most), ("open",))

    def test_stands_that_must_be_unlike(self):
        # Two keepers that go round among three stands or stay at the fourth: without unlike stands no ring would do.
        machine = read_machine(
            "switch s\nkeep a 0\nkeep b 0\nkeep c 0\ngate g s a\ngate h s ~a\nnext a h\nnext b a\nnext c c\n"
            "gate i a b\ngate j i c\nnever w j"
        )
        self.assertEqual(self.fits(machine, "w", 8)[0], "ring")
        # From any stand it may stay as long as it likes; only stands that come again are no way to a longer run.
        machine = read_machine("switch s\nkeep k 0\nkeep m 0\ngate g s k\nnever w g\nnever v k\nnext m s")
        self.assertEqual(self.fits(machine, "w", 6)[0], "ring")

    def test_machines_without_keepers(self):
        machine = read_machine("switch s\nnever s s\nnever z 0")
        self.assertEqual(self.fits(machine, "s", 3)[0], "row")
        self.assertEqual(self.fits(machine, "z", 3)[:2], ("ring", 1))

    def test_a_ring_of_all_stands(self):
        # Each stand may go to each other one: only by counting the stands can longer runs be ruled out.
        machine = read_machine(
            "switch s\nswitch t\nkeep a 0\nkeep b 0\nkeep f 0\nnext a s\nnext b t\ngate g a b\ngate h g f\nnever w h"
        )
        self.assertEqual(self.fits(machine, "w", 6)[:2], ("ring", 4))
        self.assertEqual(self.fits(machine, "w", 3), ("open",))


class Chance(Ringing):
    def test_drawn_machines(self):
        met = {"row": 0, "open": 0, "ring": 0, "longer": 0}
        for rng, machine, wish in small_machines(711, 400):
            answer = self.fits(machine, wish, rng.randint(0, 6))
            met[answer[0]] += 1
            met["longer"] += answer[0] == "ring" and answer[1] > 1
        self.assertGreater(min(met.values()), 8, met)

    def test_what_is_shown_is_so(self):
        met = {True: 0, False: 0}
        for rng, machine, wish in small_machines(712, 120):
            answer = ring_answer(machine, wish, 5)
            if answer[0] == "ring":
                count = shortest_count(machine, wish)
                for other in machine.nevers:
                    for k in (answer[1] - 1, answer[1], answer[1] + 1, 0, -1):
                        told = ring_shown(machine, other, k, answer[2])
                        self.assertIsInstance(told, bool)
                        if told:
                            count = shortest_count(machine, other)
                            self.assertTrue(k >= 1 and has_ring(machine, other, k) and (count is None or count > k))
                        met[told] += 1
        self.assertGreater(min(met.values()), 40, met)

    def test_spoilt_papers(self):
        rng = random.Random(713)
        told = {True: 0, False: 0}
        kept = []
        for drawn, machine, wish in small_machines(713, 160):
            answer = ring_answer(machine, wish, 4)
            if answer[0] == "ring":
                kept.append((machine, wish, answer))
        for machine, wish, (word, k, papers) in kept:
            for count in range(6):
                spoilt = changed_numbers(rng, copy.deepcopy(papers))
                # The ring is there, so spoilt papers may be taken or not; nothing else may come of them.
                told[ring_shown(machine, wish, k, spoilt)] += 1
            for other, name, answer in rng.sample(kept, 6):
                if ring_shown(other, name, k, papers):
                    count = shortest_count(other, name)
                    self.assertTrue(has_ring(other, name, k) and (count is None or count > k))
        self.assertGreater(told[False], 100)

    def test_spoilt_papers_of_what_is_not_so(self):
        # Papers of a machine whose ring is there, handed in with one of the same form whose ring is not.
        rng = random.Random(714)
        for count in (2, 3, 4):
            good = late_machine(count)
            papers = ring_answer(good, "w", count)[2]
            wrong = Machine(good.switches, good.keepers, [], dict(good.nexts, ka="s"), good.nevers, {})
            self.assertIs(ring_shown(good, "w", count, papers), True)
            self.assertIs(ring_shown(wrong, "w", count, papers), False)
            self.assertIs(ring_shown(good, "w", count - 1, papers), False)
            self.assertIs(ring_shown(good, "w", count + 1, papers), False)
            for drawn in range(150):
                spoilt = changed_numbers(rng, copy.deepcopy(papers))
                self.assertIs(ring_shown(wrong, "w", count, spoilt), False)
                self.assertIs(ring_shown(good, "w", count - 1, spoilt), False)

    def test_papers_of_another_form(self):
        machine = late_machine(2)
        for papers in ((), [], None, 3, "papers", ([], []), ([], [], []), ([], [], ([], 0)), [([], 0)], ([], 0),
                       ([([], 0)], [(0, 1, 2)], ([], 0)), ([([], 0)], [3], ([], 0)), ([None, None], [], ([], 0)),
                       ([([], 0)] * 2, [], ([(0, 1)], 0)), ([([], 0)] * 2, [], ([], None)), {}):
            self.assertIs(ring_shown(machine, "w", 2, papers), False, papers)

    def test_papers_with_a_part_of_another_form(self):
        machine = read_machine("switch s\nkeep a 0\nkeep f 0\nnext a s\ngate g a f\nnever w g")
        word, k, (rows, pairs, (steps, last)) = ring_answer(machine, "w", 5)
        self.assertIs(ring_shown(machine, "w", k, (rows, pairs, (steps, last))), True)
        for one in (None, tuple(rows), rows[:-1], rows + rows[-1:], rows[:-1] + [None], rows[:-1] + [([], None)]):
            self.assertIs(ring_shown(machine, "w", k, (one, pairs, (steps, last))), False, one)
        for other in (None, tuple(pairs), [None] + pairs, [(0,)] + pairs, [(0, None)] + pairs, [[0, 1]] + pairs):
            self.assertIs(ring_shown(machine, "w", k, (rows, other, (steps, last))), False, other)
        for paper in (None, (steps,), [steps, last], (steps, None), (None, last), (tuple(steps), last),
                      (steps + [None], last), (steps + [(0, 1)], last), (steps + [(0, 1, None)], last), (last, steps)):
            self.assertIs(ring_shown(machine, "w", k, (rows, pairs, paper)), False, paper)

    def test_pairs_that_are_none(self):
        # The wish never comes to be, but it lacks the ring of one step: from a stand that can't be come to k becomes 1.
        self.no_pair_is_taken(read_machine("keep k 0\nkeep m 0\nnext k m\nnever w k"))
        self.no_pair_is_taken(read_machine("keep k 0\nkeep m 1\nnext k ~m\ngate g k m\ngate h k m\nnever w k"))

    def no_pair_is_taken(self, machine):
        self.assertEqual((has_ring(machine, "w", 1), shortest_count(machine, "w")), (False, None))
        rows = shortest_row(machine, "w", 1)[1]
        steps = Steps(machine, 2)
        forged = 0
        for pair in itertools.product(range(-2, 5), repeat=2):
            # Were a stand told to be unlike itself, or one that is not there, papers could be had.
            clauses = way_clauses(steps, "k", 1) + pair_clauses(steps, 0, pair)
            clauses = [sorted(set(clause)) for clause in clauses]
            if not any(0 in clause or any(-number in clause for number in clause) for clause in clauses):
                most = max(abs(number) for clause in clauses for number in clause)
                answer = solved(most, clauses, [steps.number("k", 1)])
                if answer[0] == "no":
                    forged += 1
                    self.assertIs(ring_shown(machine, "w", 1, (rows, [pair], answer[1])), False, pair)
            for last in range(len(clauses)):
                self.assertIs(ring_shown(machine, "w", 1, (rows, [pair], ([], last))), False)
        self.assertGreater(forged, 1)

class Great(Ringing):
    def test_stands_far_too_many_to_be_gone_through(self):
        machine = late_machine(16)
        answer = ring_answer(machine, "w", 20)
        self.assertEqual(answer[:2], ("ring", 16))
        self.shown(machine, "w", 16, answer[2])
        self.assertEqual(ring_answer(machine, "w", 15), ("open",))
        self.assertEqual(ring_answer(counter_machine(16), "full", 12), ("open",))
        answer = ring_answer(counter_machine(5), "full", 40)
        self.assertEqual((answer[0], len(answer[2])), ("row", 32))

    def test_drawn_machines_as_great_as_they_may_be(self):
        rng = random.Random(715)
        met = {"row": 0, "ring": 0}
        for count in range(24):
            machine = (some_machine if count % 2 else tangled_machine)(rng, 12, 16, 60)
            for wish in machine.nevers:
                answer = ring_answer(machine, wish, 4)
                if answer[0] == "row":
                    self.assertIs(comes_there(machine, wish, answer[1], answer[2]), True)
                if answer[0] == "ring":
                    self.shown(machine, wish, answer[1], answer[2])
                met[answer[0]] = met.get(answer[0], 0) + 1
        self.assertGreater(min(met["row"], met["ring"]), 10, met)


class Own(Ringing):
    def test_what_was_told_may_be_changed(self):
        machine = read_machine("switch s\nswitch t\nkeep a 0\nkeep f 0\nnext a s\ngate g a f\nnever w g\nnever v a")
        for wish in ("w", "v"):
            answer = ring_answer(machine, wish, 5)
            wanted = copy.deepcopy(answer)
            for part in lists_in(answer):
                part.append("spoilt")
            self.assertEqual(ring_answer(machine, wish, 5), wanted)

    def test_no_two_lists_are_one(self):
        machine = read_machine("switch s\nswitch t\nkeep a 0\nkeep f 0\nnext a s\ngate g a f\nnever w g\nnever v a")
        found = []
        for wish in ("w", "v", "w", "v"):
            found += lists_in(ring_answer(machine, wish, 5))
        self.assertEqual(len({id(part) for part in found}), len(found))


def lists_in(told):
    """All lists within what was told."""
    if not isinstance(told, (list, tuple)):
        return []
    return [part for inner in told for part in lists_in(inner)] + ([told] if isinstance(told, list) else [])


if __name__ == "__main__":
    unittest.main()
