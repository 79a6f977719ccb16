"""[93], [94]: rounds again and again, and runs and walls carried back."""

import copy
import random
import unittest

from everguard.alike import by_alike
from everguard.checking import wall_shown
from everguard.cones import by_cone
from everguard.guarding import guarded
from everguard.halving import halving_answer
from everguard.machinetext import machine_text, read_machine
from everguard.settled import by_settled
from everguard.smaller import made_small, row_back, wall_back
from everguard.walls import wall_papers
from helper import (
    bit_of, drawn_first, drawn_row, drawn_run_fault, fields, goals_through, great_machines, is_idle, is_proper_piece,
    mixed_machines, reckoned, reckoned_step, round_fault, row_fits, tight_wall, twofold_machine, wall_faults,
)

GUARD = """switch s
switch t
keep a 0
keep b 1
keep c 0
keep d 0
keep e -
keep f 0
gate g s b
gate h b s
gate i t e
gate j c ~d
gate k f j
next c g
next d h
next e i
next f k
never w j
never v i
some u ~e"""


def reckoned_rounds(machine, wish):
    """The rounds of [93], each made by its own way."""
    rounds = []
    ways = (lambda made: by_cone(made, wish), by_settled, by_alike)
    while not all(is_idle(machine, way(machine)) for way in ways):
        for way in ways:
            made = way(machine)
            if not is_idle(machine, made):
                rounds.append(made)
                machine = made[0]
    return rounds


def plainly(rounds):
    return [(fields(small), list(names.items())) for small, names in rounds]


def last_of(machine, rounds):
    return rounds[-1][0] if rounds else machine


class Examples(unittest.TestCase):
    def test_rounds_one_behind_the_other(self):
        machine = read_machine(GUARD)
        rounds = made_small(machine, "w")
        texts = [machine_text(small).split("\n") for small, names in rounds]
        self.assertEqual(texts, [
            ["switch s", "keep b 1", "keep c 0", "keep d 0", "gate g s b", "gate h b s", "gate j c ~d", "next c g", "next d h",
             "never w j"],
            ["switch s", "keep c 0", "keep d 0", "gate g s 1", "gate h 1 s", "gate j c ~d", "next c g", "next d h", "never w j"],
            ["switch s", "keep c 0", "next c s", "never w 0"],
            ["never w 0"],
        ])
        self.assertEqual(rounds[1][1], {"s": "s", "b": "1", "c": "c", "d": "d", "g": "g", "h": "h", "j": "j"})
        self.assertEqual(rounds[2][1], {"s": "s", "c": "c", "d": "c", "g": "s", "h": "s", "j": "0"})

    def test_a_machine_that_is_small_already(self):
        machine = read_machine("switch s\nkeep a 0\ngate g s ~a\nnext a g\nnever w a")
        self.assertEqual(made_small(machine, "w"), [])
        self.assertEqual(made_small(read_machine("never w 0"), "w"), [])
        self.assertEqual(made_small(read_machine("some w 1"), "w"), [])

    def test_ways_that_have_nothing_to_do_are_left_out(self):
        for text, wanted in (
            ("switch s\nkeep a 0\nkeep b 0\ngate g a ~b\nnext a s\nnext b s\nnever w g", ["alike", "cone"]),
            ("switch s\nkeep a 0\nkeep b 0\ngate g a b\nnext a s\nnext b s\nnever w g", ["alike"]),
            ("switch s\nkeep a 0\nkeep b 1\ngate g a s\ngate h g b\nnext a s\nnever w h", ["settled", "alike"]),
            ("switch s\nkeep a 0\nkeep b 1\ngate g a s\nnext a s\nnever w g", ["cone"]),
            ("switch s\nkeep a -\nkeep b 0\ngate g a ~b\ngate h s b\nnext a ~a\nnext b h\nnever w g",
             ["settled", "alike", "cone"]),
        ):
            machine = read_machine(text)
            ways = []
            for made in made_small(machine, "w"):
                ways += [word for word, way in (("cone", lambda told: by_cone(told, "w")), ("settled", by_settled),
                                                ("alike", by_alike)) if plainly([way(machine)]) == plainly([made])][:1]
                machine = made[0]
            self.assertEqual(ways, wanted, text)

    def test_only_a_wish_is_left_out(self):
        machine = read_machine("switch s\nkeep a 0\ngate g s ~a\nnext a g\nnever w a\nsome v ~a")
        rounds = made_small(machine, "v")
        self.assertEqual([machine_text(small) for small, names in rounds],
                         ["switch s\nkeep a 0\ngate g s ~a\nnext a g\nsome v ~a"])
        self.assertTrue(all(goal == name for name, goal in rounds[0][1].items()))

    def test_a_row_carried_back(self):
        machine = read_machine("\n".join([
            "switch s", "switch t", "keep a 1", "keep b 0", "keep c 0", "keep d -", "keep e 1", "keep f -", "gate g t a",
            "gate h a t", "next b g", "next c h", "next d b", "gate i c d", "gate j f s", "next e j", "never w i"]))
        rounds = made_small(machine, "w")
        last = last_of(machine, rounds)
        self.assertEqual((last.switches, list(last.keepers)), (["t"], ["b", "d"]))
        row = [(1,), (1,), (0,)]
        self.assertEqual(row_back(machine, rounds, (0, 1), row), ((1, 0, 0, 1, 1, 0), [(0, 1), (0, 1), (0, 0)]))
        self.assertEqual(row_back(machine, rounds, (0, 0), [(0,)]), ((1, 0, 0, 0, 1, 0), [(0, 0)]))
        self.assertEqual(row, [(1,), (1,), (0,)])

    def test_a_wall_carried_back(self):
        machine = read_machine(GUARD)
        rounds = made_small(machine, "w")
        wall = wall_back(machine, rounds, [])
        self.assertEqual(sorted(wall), sorted([("b",), ("c", "~d"), ("~c", "d")]))
        self.assertEqual(wall_faults(machine, "w", wall), [])

    def test_no_rounds(self):
        machine = read_machine("switch s\nkeep a 0\ngate g s ~a\nnext a g\nnever w a")
        row, wall = [(1,), (0,)], [("a",)]
        told = row_back(machine, [], (0,), row)
        self.assertEqual(told, ((0,), [(1,), (0,)]))
        self.assertIsNot(told[1], row)
        self.assertEqual(wall_back(machine, [], wall), [("a",)])
        self.assertIsNot(wall_back(machine, [], wall), wall)

    def test_a_machine_of_which_nothing_is_left(self):
        machine = read_machine("switch s\nkeep a 1\nkeep b -\ngate g a a\nnever w g\nnever v ~g")
        rounds = made_small(machine, "w")
        self.assertEqual(fields(last_of(machine, rounds)), [[], [], [], [], [("w", "1")], []])
        self.assertEqual(row_back(machine, rounds, (), [(), ()]), ((1, 0), [(0,), (0,)]))
        rounds = made_small(machine, "v")
        self.assertEqual(wall_faults(machine, "v", wall_back(machine, rounds, [])), [])


class Carrying(unittest.TestCase):
    def rounds_fit(self, machine, wish):
        before = fields(machine)
        rounds = made_small(machine, wish)
        self.assertIs(type(rounds), list)
        self.assertEqual(plainly(rounds), plainly(reckoned_rounds(machine, wish)))
        self.assertEqual(made_small(last_of(machine, rounds), wish), [])
        self.assertEqual(fields(machine), before)
        return rounds

    def row_goes_along(self, rng, machine, rounds, count):
        """A drawn run of the last machine is carried back to one of the machine that goes along."""
        last = last_of(machine, rounds)
        first, row = drawn_first(rng, last), drawn_row(rng, last, count)
        handed = (first, copy.deepcopy(row), plainly(rounds))
        stand, carried = row_back(machine, rounds, first, row)
        self.assertEqual((first, row, plainly(rounds)), handed)
        self.assertEqual((type(stand), type(carried), len(carried)), (tuple, list, len(row)))
        goals = goals_through(machine, rounds)
        for bit, (name, told) in zip(stand, machine.keepers.items()):
            self.assertTrue(told in (None, bit))
            if goals[name] is None:
                self.assertEqual(bit, 0 if told is None else told)
        for given, small_given in zip(carried, row):
            values = reckoned(machine, stand, given)
            there = reckoned(last, first, small_given)
            for name, goal in goals.items():
                if goal is not None:
                    self.assertEqual(values[name], bit_of(there, goal))
                elif name in machine.switches:
                    self.assertEqual(values[name], 0)
            stand, first = reckoned_step(machine, stand, given), reckoned_step(last, first, small_given)


class Chance(Carrying):
    def test_rounds_and_rows(self):
        met = {"few": 0, "many": 0}
        for rng, machine in mixed_machines(941, 180):
            for wish in list(machine.nevers) + list(machine.somes):
                self.rounds_fit(by_cone(machine, wish)[0], wish)
                rounds = self.rounds_fit(machine, wish)
                made = machine
                for part in rounds:
                    self.assertIsNone(round_fault(made, part))
                    made = part[0]
                for count in (1, 2, 6):
                    self.row_goes_along(rng, machine, rounds, count)
                met["few" if len(rounds) < 4 else "many"] += 1
        self.assertGreater(min(met.values()), 20, met)

    def test_rows_that_come_there(self):
        seen = 0
        for rng, machine in mixed_machines(942, 150):
            for wish in machine.nevers:
                rounds = made_small(machine, wish)
                answer = halving_answer(last_of(machine, rounds), wish)
                if answer[0] == "row":
                    self.assertTrue(row_fits(machine, wish, *row_back(machine, rounds, answer[1], answer[2])))
                    seen += bool(rounds)
        self.assertGreater(seen, 50)

    def test_walls(self):
        met = {"tight": 0, "settled": 0, "alike": 0}
        for rng, machine in mixed_machines(943, 300):
            for wish in machine.nevers:
                rounds = made_small(machine, wish)
                last = last_of(machine, rounds)
                answer = guarded(last, wish)
                if answer[0] == "row":
                    continue
                for wall in (tight_wall(last), answer[1], halving_answer(last, wish)[1]):
                    handed = copy.deepcopy(wall)
                    carried = wall_back(machine, rounds, wall)
                    self.assertEqual(wall, handed)
                    self.assertIs(type(carried), list)
                    self.assertTrue(all(is_proper_piece(machine, piece) for piece in carried))
                    self.assertEqual(wall_faults(machine, wish, carried), [])
                goals = [goal for small, names in rounds for name, goal in names.items() if name in machine.keepers]
                met["tight"] += len(tight_wall(last)) > 1
                met["settled"] += any(goal in ("0", "1") for goal in goals)
                met["alike"] += any(goal in machine.keepers and goals.count(goal) > 1 for goal in goals)
        self.assertGreater(min(met.values()), 10, met)


class Great(Carrying):
    def test_machines_of_twelve_switches_sixteen_keepers_sixty_gates(self):
        met = {"row": 0, "wall": 0}
        for switches, seed in ((12, 944), (2, 945)):
            for rng, machine in great_machines(seed, 18, switches):
                for wish in list(machine.nevers) + list(machine.somes):
                    rounds = self.rounds_fit(machine, wish)
                    made = machine
                    for part in rounds:
                        self.assertIsNone(drawn_run_fault(rng, made, part, 8))
                        made = part[0]
                    self.row_goes_along(rng, machine, rounds, 8)
                    if wish in machine.nevers:
                        met[self.answer_carried(machine, wish, rounds)] += 1
        self.assertGreater(min(met.values()), 10, met)

    def answer_carried(self, machine, wish, rounds):
        answer = halving_answer(last_of(machine, rounds), wish)
        if answer[0] == "row":
            self.assertTrue(row_fits(machine, wish, *row_back(machine, rounds, answer[1], answer[2])))
        elif len(answer[1]) < 200:
            wall = wall_back(machine, rounds, answer[1])
            self.assertIs(wall_shown(machine, wish, wall, wall_papers(machine, wish, wall)), True)
        return answer[0]

    def test_twofold_machines(self):
        rng = random.Random(946)
        for count in range(12):
            machine = twofold_machine(rng, 12, 16, 60)
            for wish in list(machine.nevers) + list(machine.somes):
                rounds = self.rounds_fit(machine, wish)
                self.row_goes_along(rng, machine, rounds, 8)
                if wish in machine.nevers:
                    self.answer_carried(machine, wish, rounds)


if __name__ == "__main__":
    unittest.main()
