"""[1], [2]: what holds of the whole program: nothing handed in is changed, answers are the asker's own and the same."""

import copy
import os
import random
import subprocess
import sys
import unittest

from everguard.alike import by_alike
from everguard.answers import answers
from everguard.answertext import checked
from everguard.checking import wall_shown
from everguard.cones import by_cone
from everguard.guarding import guarded
from everguard.halving import ahead_of, halving_answer, order_of, rings_to, tree_of
from everguard.machines import Machine, next_of, turned
from everguard.machinetext import machine_text, read_machine
from everguard.numbers import Numbers
from everguard.plain import plain_answer
from everguard.refuting import clause_behind, refuted
from everguard.rings import ring_answer, ring_shown
from everguard.rows import none_shown, shortest_row
from everguard.running import comes_there, first_stands, is_first, stepped, value_of, values_at, walked
from everguard.settled import by_settled
from everguard.smaller import made_small, row_back, wall_back
from everguard.solving import solved
from everguard.someday import lasso_walks, shadow, some_answer
from everguard.steps import Steps
from everguard.trees import both, either, holds, opposite, put_for, some_of
from everguard.walls import wall_fault, wall_papers
from everguard.wishes import each_wish, joined, wall_of_all
from helper import FIELDS, counter_machine, drawers, fields, some_machine, tight_wall

MANY, CLAUSES = drawers(4, 3)

ASKED_ELSEWHERE = """
import random
from everguard.alike import by_alike
from everguard.answers import answers
from everguard.answertext import checked
from everguard.cones import by_cone
from everguard.guarding import guarded
from everguard.halving import ahead_of, halving_answer, rings_to, tree_of
from everguard.machinetext import machine_text
from everguard.numbers import Numbers
from everguard.plain import plain_answer
from everguard.rings import ring_answer
from everguard.rows import shortest_row
from everguard.settled import by_settled
from everguard.smaller import made_small, wall_back
from everguard.solving import solved
from everguard.someday import shadow, some_answer
from everguard.steps import Steps
from everguard.trees import both, put_for
from everguard.walls import wall_fault, wall_papers
from everguard.wishes import each_wish, wall_of_all
from helper import drawers, fields, some_machine, tight_wall
rng = random.Random(7)
for count in range(8):
    made = some_machine(rng, 3, 5, 12)
    print(machine_text(made), [plain_answer(made, wish) for wish in list(made.nevers) + list(made.somes)])
    numbers = Numbers(made)
    print(numbers.clauses(), solved(numbers.many(), numbers.clauses(), [numbers.number(made.gates[-1][0])]))
    print(Steps(made, 2).clauses(), [shortest_row(made, wish, 3) for wish in list(made.nevers) + list(made.somes)])
    for wish in made.nevers:
        print(guarded(made, wish), ring_answer(made, wish, 4))
        print(rings_to(made, wish), halving_answer(made, wish), tree_of(made, made.nevers[wish]), ahead_of(made, True))
        print([fields(small) + list(names.items()) for small, names in (by_cone(made, wish), by_settled(made), by_alike(made))])
        print([fields(small) + list(names.items()) for small, names in made_small(made, wish)])
        print(wall_back(made, made_small(made, wish), []))
        print(wall_fault(made, wish, tight_wall(made)))
        if plain_answer(made, wish)[0] == "wall":
            print(wall_papers(made, wish, tight_wall(made)))
    print(each_wish(made), wall_of_all(made))
    print([(fields(shadow(made, wish)), some_answer(made, wish)) for wish in made.somes])
    print(answers(machine_text(made)), checked(machine_text(made), answers(machine_text(made))))
print(solved(*drawers(5, 4), []))
tree = ("a", ("c", True, False), ("b", False, ("c", False, True)))
order = ["a", "b", "c"]
print(both(order, tree, ("b", False, True)), put_for(order, tree, {"a": ("b", True, False), "c": tree}))
"""

ORDER = ["a", "b", "c"]
TREE = ("a", ("c", True, False), ("b", False, ("c", False, True)))
GIVEN = {"a": ("b", True, False), "c": TREE}


def smaller(machine):
    """(rounds, last machine) for each wish."""
    made = [made_small(machine, name) for name in list(machine.nevers) + list(machine.somes)]
    return [(rounds, rounds[-1][0] if rounds else machine) for rounds in made]


def stand_of(machine):
    return first_stands(machine)[0]


def input_of(machine):
    return tuple(1 for name in machine.switches)


def questions(machine, paper):
    """Functions without arguments, one for each thing that can be asked of the machine and the paper."""
    wish = list(machine.nevers)[0]
    stand = first_stands(machine)[0]
    row = [tuple(1 for name in machine.switches)] * 3
    numbers = Numbers(machine)
    steps = Steps(machine, 3)
    wall = tight_wall(machine)
    return [
        lambda: machine_text(machine),
        lambda: fields(read_machine(machine_text(machine))),
        lambda: [next_of(machine, name) for name in machine.keepers],
        lambda: turned("a"),
        lambda: values_at(machine, stand, row[0]),
        lambda: value_of(values_at(machine, stand, row[0]), machine.nevers[wish]),
        lambda: stepped(machine, stand, row[0]),
        lambda: walked(machine, stand, row),
        lambda: is_first(machine, stand),
        lambda: comes_there(machine, wish, stand, row),
        lambda: first_stands(machine),
        lambda: plain_answer(machine, wish),
        lambda: solved(numbers.many(), numbers.clauses(), [numbers.number(machine.nevers[wish])]),
        lambda: solved(MANY, CLAUSES, []),
        lambda: refuted(CLAUSES, [], paper),
        lambda: clause_behind(CLAUSES, paper),
        lambda: numbers.clauses(),
        lambda: (numbers.many(), numbers.number("1")),
        lambda: steps.clauses(),
        lambda: (steps.many(), steps.number("1", 2)),
        lambda: steps.run_of(solved(steps.many(), steps.clauses(), [])[1]),
        lambda: [shortest_row(machine, name, 3) for name in list(machine.nevers) + list(machine.somes)],
        lambda: [none_shown(machine, wish, most, [paper]) for most in range(3)],
        lambda: wall_fault(machine, wish, wall),
        lambda: wall_papers(machine, wish, wall) if wall_fault(machine, wish, wall) is None else None,
        lambda: wall_shown(machine, wish, wall, ([paper] * len(wall), paper)),
        lambda: [guarded(machine, name) for name in machine.nevers],
        lambda: [ring_answer(machine, name, 3) for name in machine.nevers],
        lambda: [ring_shown(machine, name, 1, ([paper], [(0, 1)], paper)) for name in machine.nevers],
        lambda: (order_of(machine), tree_of(machine, machine.nevers[wish]), ahead_of(machine, True)),
        lambda: [(rings_to(machine, name), halving_answer(machine, name)) for name in machine.nevers],
        lambda: [by_cone(machine, name) for name in list(machine.nevers) + list(machine.somes)],
        lambda: (by_settled(machine), by_alike(machine)),
        lambda: [made_small(machine, name) for name in list(machine.nevers) + list(machine.somes)],
        lambda: [row_back(machine, rounds, stand_of(last), [input_of(last)] * 2) for rounds, last in smaller(machine)],
        lambda: [wall_back(machine, rounds, []) for rounds, last in smaller(machine)],
        lambda: (joined([wall, wall]), each_wish(machine), wall_of_all(machine)),
        lambda: [lasso_walks(machine, name, stand, row, 1) for name in machine.somes],
        lambda: [(shadow(machine, name), some_answer(machine, name)) for name in machine.somes],
        lambda: (answers(machine_text(machine)), checked(machine_text(machine), answers(machine_text(machine)))),
        lambda: (both(ORDER, TREE, GIVEN["a"]), either(ORDER, TREE, GIVEN["a"]), opposite(TREE)),
        lambda: (some_of(ORDER, TREE, ORDER[1:]), put_for(ORDER, TREE, GIVEN), holds(TREE, {"a": 0, "c": 1})),
    ]


def containers(told):
    """All lists and dicts within what was told, itself and machines' fields among them."""
    if isinstance(told, Machine):
        told = tuple(getattr(told, name) for name in FIELDS)
    inner = list(told.values()) if isinstance(told, dict) else told if isinstance(told, (list, tuple)) else []
    found = [told] if isinstance(told, (list, dict)) else []
    for part in inner:
        found += containers(part)
    return found


def plainly(told):
    """A copy of what was told, machines as their fields."""
    if isinstance(told, Machine):
        return fields(told)
    if isinstance(told, dict):
        return {name: plainly(part) for name, part in told.items()}
    return type(told)(plainly(part) for part in told) if isinstance(told, (list, tuple)) else told


def spoil(told):
    """Change all that can be changed in what was told."""
    for part in containers(told):
        if isinstance(part, dict):
            part.clear()
            part["spoilt"] = 9
        else:
            part.reverse()
            part.append("spoilt")


class Whole(unittest.TestCase):
    def machines(self):
        rng = random.Random(1)
        made = [some_machine(rng, rng.randint(0, 3), rng.randint(0, 5), rng.randint(0, 15)) for count in range(25)]
        return made + [counter_machine(5)]

    def test_what_was_told_may_be_changed(self):
        paper = solved(MANY, CLAUSES, [])[1]
        for machine in self.machines():
            asked = questions(machine, paper)
            before = fields(machine)
            wanted = [plainly(question()) for question in asked]
            for question, answer in zip(asked, wanted):
                spoil(question())
                self.assertEqual(plainly(question()), answer)
            self.assertEqual([plainly(question()) for question in asked], wanted)
            self.assertEqual(fields(machine), before)

    def test_what_was_handed_in_stays(self):
        paper = solved(MANY, CLAUSES, [])[1]
        kept = copy.deepcopy((paper, CLAUSES, ORDER, GIVEN))
        for machine in self.machines():
            before = fields(machine)
            for question in questions(machine, paper):
                question()
            self.assertEqual(fields(machine), before)
        self.assertEqual((paper, CLAUSES, ORDER, GIVEN), kept)

    def test_rows_and_values_handed_in_stay(self):
        machine = read_machine("switch s\nkeep k 0\nnext k s\nnever w k")
        row = [(1,), (0,), (1,)]
        values = {"s": 1, "k": 0}
        walked(machine, (0,), row)
        comes_there(machine, "w", (0,), row)
        value_of(values, "~s")
        self.assertEqual((row, values), ([(1,), (0,), (1,)], {"s": 1, "k": 0}))

    def test_no_two_lists_or_dicts_that_are_told_are_one(self):
        paper = solved(MANY, CLAUSES, [])[1]
        for machine in self.machines():
            told = [question() for question in questions(machine, paper) + questions(machine, paper)]
            found = [part for answer in told for part in containers(answer)]
            self.assertEqual(len({id(part) for part in found}), len(found))

    def test_machines_read_twice_share_nothing(self):
        told = "switch a\nkeep k -\ngate g a k\nnext k g\nnever w g\nsome v k"
        one = read_machine(told)
        wanted = fields(read_machine(told))
        one.switches.append("b")
        one.keepers["m"] = 1
        one.gates.clear()
        one.nexts["k"] = "0"
        one.nevers.clear()
        one.somes["x"] = "1"
        self.assertEqual(fields(read_machine(told)), wanted)

    def test_what_was_told_may_be_handed_in_again(self):
        machine = counter_machine(8)
        answer = plain_answer(machine, "full")
        self.assertIs(comes_there(machine, "full", answer[1], answer[2]), True)
        # Greater than clauses and papers that are handed in need to be.
        many, clauses = drawers(7, 6)
        paper = solved(many, clauses, [])[1]
        self.assertIs(refuted(clauses, [], paper), True)
        numbers = Numbers(some_machine(random.Random(2), 12, 16, 60))
        self.assertEqual(solved(numbers.many(), numbers.clauses(), [])[0], "yes")

    def test_answers_may_be_handed_on_from_one_to_the_other(self):
        met = {"row": 0, "wall": 0, "ring": 0}
        for machine in self.machines():
            for wish in machine.nevers:
                answer = guarded(machine, wish)
                if answer[0] == "row":
                    self.assertIs(comes_there(machine, wish, answer[1], answer[2]), True)
                else:
                    self.assertIs(wall_shown(machine, wish, answer[1], wall_papers(machine, wish, answer[1])), True)
                    told = shortest_row(machine, wish, 3)
                    self.assertEqual(told[0], "none")
                    self.assertIs(none_shown(machine, wish, 3, told[1]), True)
                ring = ring_answer(machine, wish, 3)
                if ring[0] == "ring":
                    self.assertEqual(answer[0], "wall")
                    self.assertIs(ring_shown(machine, wish, ring[1], ring[2]), True)
                    met["ring"] += 1
                met[answer[0]] += 1
        self.assertGreater(min(met.values()), 4, met)

    def test_later_answers_may_be_handed_on(self):
        met = {"lasso": 0, "shadow": 0}
        for machine in self.machines():
            for wish in machine.somes:
                answer = some_answer(machine, wish)
                if answer[0] == "lasso":
                    self.assertIs(lasso_walks(machine, wish, *answer[1:]), True)
                    met["lasso"] += 1
                    continue
                # Greater than machines that are handed in need to be.
                shade = shadow(machine, wish)
                for wall in (answer[1], halving_answer(shade, wish)[1], each_wish(shade)[wish][1], guarded(shade, wish)[1]):
                    self.assertIs(wall_shown(shade, wish, wall, wall_papers(shade, wish, wall)), True)
                self.assertEqual(wall_of_all(shade)[0], [wish])
                met["shadow"] += 1
        self.assertGreater(min(met.values()), 4, met)

    def test_machines_somewhat_beyond_the_bounds_are_not_refused(self):
        keepers = {"k" + letter: 0 for letter in "abcdefghijklmnopqr"}
        switches = ["s" + letter for letter in "abcdefghijklmn"]
        machine = Machine(switches, keepers, [("g", "sa", "ka")], {"ka": "sn"}, {"w": "g", "v": "kr"}, {"u": "kb", "x": "~kb"})
        self.assertEqual(stepped(machine, (0,) * 18, (1,) * 14), (1,) + (0,) * 17)
        self.assertEqual(Numbers(machine).many(), 34)
        self.assertIs(comes_there(machine, "w", (0,) * 18, [(1,) * 14] * 2), True)
        self.assertEqual([answer[0] for answer in each_wish(machine).values()], ["row", "wall"])
        self.assertEqual([some_answer(machine, wish)[0] for wish in machine.somes], ["lasso", "wall"])
        self.assertEqual([small.keepers for small, names in made_small(machine, "w")], [{"ka": 0}])
        self.assertEqual(halving_answer(machine, "v"), ("wall", [("~kr",)]))

    def test_the_same_is_told_in_another_process(self):
        folder = os.path.dirname(os.path.abspath(__file__))
        told = set()
        for seed in ("0", "1", "2"):
            paths = os.pathsep.join([folder] + [path or os.getcwd() for path in sys.path])
            around = dict(os.environ, PYTHONHASHSEED=seed, PYTHONPATH=paths, PYTHONDONTWRITEBYTECODE="1")
            done = subprocess.run(
                [sys.executable, "-c", ASKED_ELSEWHERE], env=around, capture_output=True, text=True, check=True,
            )
            told.add(done.stdout)
        self.assertEqual(len(told), 1)


if __name__ == "__main__":
    unittest.main()
