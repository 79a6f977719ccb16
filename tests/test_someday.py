"""[111], [112]: lassos, shadows, and answers to wishes of some."""

import copy
import random
import unittest

from everguard.checking import wall_shown
from everguard.guarding import guarded
from everguard.machines import Machine
from everguard.machinetext import is_name, read_machine
from everguard.plain import plain_answer
from everguard.someday import lasso_walks, shadow, some_answer
from everguard.walls import wall_papers
from helper import (
    Builder, all_names, counter_machine, drawn_first, drawn_row, empty, fails, fields, great_machines, is_proper_piece,
    knotted_machine, lasso_fits, letters, mixed_machines, shortest_count, some_machine, token_machine, wall_faults,
)

GUARD = "switch s\nkeep a 0\nkeep b 1\nkeep c -\ngate g s ~a\nnext a g\nnext b a\nsome w a\nsome v b\nsome z 0\nsome o 1\nsome c c"


def with_somes(machine, somes):
    return Machine(machine.switches, machine.keepers, machine.gates, machine.nexts, machine.nevers, somes)


def running_tokens(count):
    """One of so many keepers is 1 at first and is handed on at each step."""
    named = letters("k", count)
    nexts = {name: named[place - 1] for place, name in enumerate(named)}
    firsts = {name: int(place == 0) for place, name in enumerate(named)}
    return Machine([], firsts, [], nexts, {}, {"last": named[-1]})


def timer_machine(count, noise):
    """A counter of so many keepers that never rests, beside noise; a step with the noise in uproar will do, too."""
    build = Builder()
    named, noisy, switches = letters("k", count), letters("n", noise), letters("s", 12)
    nexts = {}
    carry = "1"
    for name in named:
        nexts[name] = build.unlike(name, carry) if carry != "1" else "~" + name
        carry = build.both(name, carry) if carry != "1" else name
    for place, name in enumerate(noisy):
        nexts[name] = build.unlike(noisy[place - 1], switches[place])
    uproar = build.both(noisy[0], "~" + noisy[1])
    wanted = "~" + build.both("~" + carry, "~" + uproar)
    while len(build.gates) < 60:
        build.both(switches[len(build.gates) % 12], noisy[0])
    return Machine(switches, dict.fromkeys(named + noisy, 0), build.gates, nexts, {}, {"rings": wanted, "never": uproar})


class Lassos(unittest.TestCase):
    def test_a_lasso(self):
        machine = read_machine("switch s\nkeep a 0\nkeep b -\nnext a s\nsome w b\nsome v a")
        self.assertIs(lasso_walks(machine, "w", (0, 0), [(0,)], 0), True)
        self.assertIs(lasso_walks(machine, "w", (0, 0), [(1,), (0,)], 0), True)
        self.assertIs(lasso_walks(machine, "w", (0, 0), [(1,), (1,)], 1), True)
        self.assertIs(lasso_walks(machine, "v", (0, 1), [(0,), (0,), (0,)], 2), True)

    def test_what_is_none(self):
        machine = read_machine("switch s\nkeep a 0\nkeep b -\nnext a s\nsome w b\nsome v a")
        self.assertIs(lasso_walks(machine, "w", (0, 1), [(0,)], 0), False)
        self.assertIs(lasso_walks(machine, "w", (1, 0), [(1,)], 0), False)
        self.assertIs(lasso_walks(machine, "w", (0, 0), [(1,)], 0), False)
        self.assertIs(lasso_walks(machine, "w", (0, 0), [(1,), (1,)], 0), False)
        self.assertIs(lasso_walks(machine, "v", (0, 0), [(1,), (0,)], 0), False)

    def test_places_that_there_are_not(self):
        machine = read_machine("switch s\nkeep a 0\nsome w a")
        for at in (0, 1):
            self.assertIs(lasso_walks(machine, "w", (0,), [(0,), (1,)], at), True)
        for at in (-1, -2, 2, 3, 10 ** 9, -10 ** 9):
            self.assertIs(lasso_walks(machine, "w", (0,), [(0,), (1,)], at), False)

    def test_the_last_input_counts(self):
        machine = read_machine("switch s\nsome w s")
        self.assertIs(lasso_walks(machine, "w", (), [(0,), (0,)], 1), True)
        self.assertIs(lasso_walks(machine, "w", (), [(0,), (1,)], 1), False)
        self.assertIs(lasso_walks(machine, "w", (), [(1,), (0,)], 1), False)

    def test_drawn_runs(self):
        met = {True: 0, False: 0}
        rng = random.Random(1111)
        for count in range(400):
            machine = some_machine(rng, rng.randint(0, 2), rng.randint(0, 3), rng.randint(0, 8))
            for wish in machine.somes:
                first = drawn_first(rng, machine) if rng.randrange(8) else tuple(
                    rng.randrange(2) for name in machine.keepers)
                row = drawn_row(rng, machine, rng.randint(1, 4))
                before = (copy.deepcopy(row), fields(machine))
                for at in range(-1, len(row) + 1):
                    told = lasso_walks(machine, wish, first, row, at)
                    self.assertIs(told, lasso_fits(machine, wish, first, row, at))
                    met[told] += 1
                self.assertEqual((row, fields(machine)), before)
        self.assertGreater(min(met.values()), 200, met)


class Shadows(unittest.TestCase):
    def form_fits(self, machine, wish):
        before = fields(machine)
        shade = shadow(machine, wish)
        self.assertIs(type(shade), Machine)
        self.assertEqual((list(shade.nevers), shade.somes), ([wish], {}))
        self.assertEqual(shade.switches[:len(machine.switches)], machine.switches)
        self.assertEqual(list(shade.keepers.items())[:len(machine.keepers)], list(machine.keepers.items()))
        self.assertEqual(shade.gates[:len(machine.gates)], machine.gates)
        for name in machine.keepers:
            self.assertEqual(shade.nexts.get(name, name), machine.nexts.get(name, name))
        self.assertLessEqual(len(shade.keepers), 2 * len(machine.keepers) + 3)
        self.assertLessEqual(len(shade.switches), len(machine.switches) + 2)
        self.well_made(shade)
        self.assertEqual((fields(machine), fields(shadow(machine, wish))), (before, fields(shade)))
        return shade

    def well_made(self, machine):
        """All names are such and unlike, and each literal's name is told ahead of it."""
        given = all_names(machine)
        self.assertEqual(len(set(given)), len(given))
        self.assertTrue(all(is_name(name) for name in given))
        known = {"0", "1"} | set(machine.switches) | set(machine.keepers)
        for name, one, other in machine.gates:
            self.assertTrue({one.lstrip("~"), other.lstrip("~")} <= known)
            known.add(name)
        self.assertTrue(set(machine.nexts) <= set(machine.keepers))
        for literal in list(machine.nexts.values()) + list(machine.nevers.values()):
            self.assertIn(literal.lstrip("~"), known)

    def test_examples(self):
        machine = read_machine(GUARD)
        for wish, fails_there in (("w", True), ("v", False), ("z", True), ("o", False), ("c", True)):
            shade = self.form_fits(machine, wish)
            self.assertEqual(plain_answer(shade, wish)[0], "row" if fails_there else "wall", wish)

    def test_names_that_are_taken(self):
        taken = [a for a in "abcdefghijklmnopqrstuvwxyz"]
        firsts = dict.fromkeys(taken[:3], 0)
        gates = [(name, "a", "b") for name in taken[3:]]
        machine = Machine([], firsts, gates, {"a": "~a", "b": "a", "c": "b"}, {}, {"a": "z", "w": "~c"})
        for wish in machine.somes:
            self.form_fits(machine, wish)

    def test_drawn_machines(self):
        met = {True: 0, False: 0}
        for rng, machine in mixed_machines(1121, 240):
            if len(machine.keepers) > 3:
                continue
            machine = with_somes(machine, {**machine.somes, **{"x" + wish: told for wish, told in machine.nevers.items()}})
            for wish in machine.somes:
                shade = self.form_fits(machine, wish)
                told = fails(machine, wish)
                self.assertEqual(shortest_count(shade, wish) is not None, told, (fields(machine), wish))
                met[told] += 1
        self.assertGreater(min(met.values()), 60, met)

    def test_machines_that_go_round(self):
        for machine, wish in ((running_tokens(4), "last"), (counter_machine(3), "half"), (token_machine(3), "far")):
            if wish == "far":
                machine = with_somes(machine, {"far": machine.nevers["far"]})
            self.assertEqual(plain_answer(self.form_fits(machine, wish), wish)[0], "row" if wish == "far" else "wall")

    def test_greater_than_may_be_handed_in(self):
        met = 0
        for rng, machine in great_machines(1122, 12):
            for wish in machine.somes:
                met += len(self.form_fits(machine, wish).keepers) > 16
        self.assertGreater(met, 3)


class Answering(unittest.TestCase):
    def fits(self, machine, wish):
        """The answer's form is right and a lasso is one; the answer."""
        before = fields(machine)
        answer = some_answer(machine, wish)
        self.assertIs(type(answer), tuple)
        if answer[0] == "lasso":
            self.assertEqual((len(answer), type(answer[1]), type(answer[2]), type(answer[3])), (4, tuple, list, int))
            self.assertTrue(lasso_fits(machine, wish, *answer[1:]))
            self.assertIs(lasso_walks(machine, wish, *answer[1:]), True)
        else:
            self.assertEqual((answer[0], len(answer), type(answer[1])), ("wall", 2, list))
            shade = shadow(machine, wish)
            self.assertTrue(all(is_proper_piece(shade, piece) for piece in answer[1]))
        self.assertEqual(some_answer(machine, wish), answer)
        self.assertEqual(fields(machine), before)
        return answer

    def shown(self, machine, wish, wall):
        shade = shadow(machine, wish)
        self.assertIs(wall_shown(shade, wish, wall, wall_papers(shade, wish, wall)), True)


class Examples(Answering):
    def test_answers(self):
        machine = read_machine(GUARD)
        for wish in ("w", "z", "c"):
            self.assertEqual(self.fits(machine, wish)[0], "lasso")
        for wish in ("v", "o"):
            answer = self.fits(machine, wish)
            self.assertEqual(answer[0], "wall")
            self.assertEqual(wall_faults(shadow(machine, wish), wish, answer[1]), [])

    def test_what_is_left_out_goes_round_too(self):
        # The wish hangs on the switch alone, but the keepers count, and the lasso must come back to one of their stands.
        plain = counter_machine(4)
        machine = Machine(["s"], plain.keepers, plain.gates, plain.nexts, {}, {"w": "s", "v": "~s", "u": plain.nevers["full"]})
        for wish in ("w", "v"):
            answer = self.fits(machine, wish)
            self.assertEqual((answer[0], len(answer[2])), ("lasso", 16))
        self.assertEqual(self.fits(machine, "u")[0], "wall")

    def test_no_keepers_and_no_switches(self):
        self.assertEqual(self.fits(read_machine("some w 0"), "w"), ("lasso", (), [()], 0))
        self.assertEqual(self.fits(read_machine("switch s\nsome w s"), "w"), ("lasso", (), [(0,)], 0))
        for text in ("some w 1", "switch s\ngate g s ~s\nsome w ~g"):
            machine = read_machine(text)
            answer = self.fits(machine, "w")
            self.assertEqual((answer[0], wall_faults(shadow(machine, "w"), "w", answer[1])), ("wall", []))


class Chance(Answering):
    def test_drawn_machines(self):
        met = {"lasso": 0, "wall": 0, "pieces": 0, "way": 0}
        machines = [machine for rng, machine in mixed_machines(1123, 200)]
        rng = random.Random(1124)
        machines += [knotted_machine(rng, rng.randint(0, 1), 3, 16) for count in range(60)]
        for machine in machines:
            if len(machine.keepers) > 3:
                continue
            for wish in machine.somes:
                answer = self.fits(machine, wish)
                self.assertEqual(answer[0] == "lasso", fails(machine, wish))
                met[answer[0]] += 1
                if answer[0] == "wall":
                    self.assertEqual(wall_faults(shadow(machine, wish), wish, answer[1]), [])
                    self.shown(machine, wish, answer[1])
                    met["pieces"] += len(answer[1]) > 3
                else:
                    met["way"] += answer[3] > 0
        self.assertGreater(min(met.values()), 15, met)

    def test_what_was_told_may_be_changed(self):
        rng = random.Random(1125)
        for count in range(20):
            machine = knotted_machine(rng, 1, 4, 20)
            for wish in machine.somes:
                wanted = copy.deepcopy((some_answer(machine, wish), fields(shadow(machine, wish))))
                some_answer(machine, wish)[1 if wanted[0][0] == "wall" else 2].clear()
                empty(shadow(machine, wish))
                self.assertEqual((some_answer(machine, wish), fields(shadow(machine, wish))), wanted)


class Great(Answering):
    def test_machines_of_twelve_switches_sixteen_keepers_sixty_gates(self):
        met = {"lasso": 0, "wall": 0, "pieces": 0}
        for switches, seed in ((12, 1126), (2, 1127), (0, 1128)):
            for rng, machine in great_machines(seed, 18, switches):
                somes = dict(machine.somes)
                somes.update({"x" + wish: told for wish, told in machine.nevers.items()})
                machine = with_somes(machine, somes)
                for wish in machine.somes:
                    answer = self.fits(machine, wish)
                    met[answer[0]] += 1
                    if answer[0] == "wall" and len(answer[1]) < 200:
                        self.shown(machine, wish, answer[1])
                        met["pieces"] += len(answer[1]) > 4
        self.assertGreater(min(met.values()), 15, met)

    def test_machines_that_go_round(self):
        for machine, wish in ((running_tokens(16), "last"), (counter_machine(7), "half")):
            answer = self.fits(machine, wish)
            self.assertEqual(answer[0], "wall")
            self.shown(machine, wish, answer[1])
        machine = with_somes(token_machine(16), {"far": "kp"})
        self.assertEqual(self.fits(machine, "far")[0], "lasso")

    def test_a_timer_beside_noise(self):
        machine = timer_machine(6, 5)
        self.assertEqual((len(machine.switches), len(machine.gates)), (12, 60))
        answer = self.fits(machine, "rings")
        self.assertEqual(answer[0], "wall")
        self.shown(machine, "rings", answer[1])
        self.assertEqual(self.fits(machine, "never")[0], "lasso")

    def test_walls_by_another_way(self):
        # A wall of the shadow is found piece by piece just where the wish does not fail.
        rng = random.Random(1129)
        met = {"row": 0, "wall": 0}
        for count in range(30):
            machine = knotted_machine(rng, rng.randint(0, 2), 5, 24)
            for wish in machine.somes:
                told = guarded(shadow(machine, wish), wish)[0]
                self.assertEqual(told == "wall", self.fits(machine, wish)[0] == "wall")
                met[told] += 1
        self.assertGreater(min(met.values()), 15, met)


if __name__ == "__main__":
    unittest.main()
