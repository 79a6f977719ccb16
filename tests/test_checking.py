"""[54]: walls checked by their papers."""

import copy
import random
import unittest

from everguard.checking import wall_shown
from everguard.machines import Machine
from everguard.machinetext import read_machine
from everguard.numbers import Numbers
from everguard.walls import wall_papers
from helper import (
    drawn_piece, fault_due, fields, piece_wants, refutes, small_machines, some_wall, tangled_machine, tight_wall,
)

GUARD = "switch s\nkeep a 0\nkeep b 1\nkeep c -\ngate g s a\nnext a g\nnext b ~a\nnext c s\nnever w g\nnever z 0\nnever c c"


def is_proper(machine, piece):
    """Whether the texts are a piece of [51] with a literal that is 1 in all first stands."""
    order = list(machine.keepers)
    bare = [literal[1:] if literal[:1] == "~" else literal for literal in piece]
    if any(name not in order for name in bare):
        return False
    places = [order.index(name) for name in bare]
    if places != sorted(set(places)):
        return False
    return any(machine.keepers[name] == (0 if literal[0] == "~" else 1) for name, literal in zip(bare, piece))


def reckoned_shown(machine, wish, wall, papers):
    """What is to be told, by the words of the document."""
    if len(papers[0]) != len(wall) or not all(is_proper(machine, piece) for piece in wall):
        return False
    numbers = Numbers(machine)
    clauses = numbers.clauses() + [[numbers.number(literal) for literal in piece] for piece in wall]
    for piece, paper in zip(wall, papers[0]):
        wants = piece_wants(machine, piece)
        at_odds = any(-want in wants for want in wants)
        if at_odds != (paper is None) or not (at_odds or refutes(clauses, wants, paper)):
            return False
    return refutes(clauses, [numbers.number(machine.nevers[wish])], papers[1])


def spoilt_paper(rng, paper):
    """The paper with one thing in it changed."""
    if paper is None:
        return rng.choice(([], [(0, 1, 1)])), rng.randint(-2, 9)
    steps, last = list(paper[0]), paper[1]
    kind = rng.randrange(5)
    if kind == 0 or not steps:
        return steps, last + rng.choice((-1, 1, 10 ** 9, -10 ** 9))
    place = rng.randrange(len(steps))
    if kind == 1:
        return steps[:place] + steps[place + 1:], last
    if kind == 2:
        return steps[:place] + [steps[place]] + steps[place:], last
    step = list(steps[place])
    part = rng.randrange(3)
    step[part] = rng.choice((step[part] + 1, step[part] - 1, -step[part], 0, 10 ** 9))
    return steps[:place] + [tuple(step)] + steps[place + 1:], last


def spoilt(rng, machine, wall, papers):
    """(wall, papers), of which one or the other has a change."""
    wall, each, last = list(wall), list(papers[0]), papers[1]
    kind = rng.randrange(9)
    place = rng.randrange(len(wall)) if wall else None
    if kind == 0 or place is None:
        last = spoilt_paper(rng, last)
    elif kind == 1:
        each[place] = spoilt_paper(rng, each[place])
    elif kind == 2:
        each[place] = None if each[place] is not None else ([], 0)
    elif kind == 3:
        each.pop(place)
    elif kind == 4:
        wall.pop(place)
        each.pop(place)
    elif kind == 5:
        other = rng.randrange(len(wall))
        each[place], each[other] = each[other], each[place]
    elif kind == 6:
        wall[place] = drawn_piece(rng, machine, 3)
    elif kind == 7:
        wall[place] = wall[place][1:] if rng.randrange(2) else wall[place][::-1]
    else:
        each.append(copy.deepcopy(each[place]))
    return wall, (each, last)


class Shown(unittest.TestCase):
    def test_papers_as_they_are_told(self):
        machine = read_machine(GUARD)
        for wish, wall in (("w", [("~a",)]), ("w", [("~a",), ("b",)]), ("w", [("~a", "b"), ("~a",), ("~a",)]), ("z", [])):
            self.assertIs(wall_shown(machine, wish, wall, wall_papers(machine, wish, wall)), True)

    def test_papers_written_by_hand(self):
        # The variables: s, a, b, g and the literal 1; the clauses: [-4, 1], [-4, 2], [4, -1, -2], [5].
        machine = read_machine("switch s\nkeep a 0\nkeep b 0\ngate g s a\nnext a g\nnever w g\nnever z 0")
        # The piece is the clause 4, [-2]; with [-4, 2] it makes [-4], the turned want of both papers.
        good = ([(1, 4, 2)], 5)
        self.assertIs(wall_shown(machine, "w", [("~a",)], ([good], good)), True)
        self.assertIs(wall_shown(machine, "z", [("~a",)], ([good], ([], 3))), True)
        self.assertIs(wall_shown(machine, "w", [("~a",)], ([good], ([], 3))), False)
        self.assertIs(wall_shown(machine, "w", [("~a",)], ([([], 4)], good)), False)
        self.assertIs(wall_shown(machine, "w", [("~a",)], ([([(4, 1, 2)], 5)], good)), False)
        self.assertIs(wall_shown(machine, "w", [("~a",)], ([None], good)), False)
        self.assertIs(wall_shown(machine, "w", [("~a",)], ([good, good], good)), False)
        self.assertIs(wall_shown(machine, "w", [("~a",)], ([], good)), False)
        self.assertIs(wall_shown(machine, "w", [], ([good], good)), False)

    def test_a_want_beside_its_turned_one(self):
        machine = read_machine("switch s\nkeep a 0\nkeep b 0\nnext a s\nnext b s\ngate g a ~b\ngate h g s\nnever w h")
        wall = [("~a", "b"), ("a", "~b")]
        papers, last = wall_papers(machine, "w", wall)
        self.assertIs(wall_shown(machine, "w", wall, ([None, None], last)), True)
        self.assertIs(wall_shown(machine, "w", wall, ([None, ([], 0)], last)), False)
        self.assertIs(wall_shown(machine, "w", wall, ([None], last)), False)
        self.assertIs(wall_shown(machine, "w", wall, ([None, None, None], last)), False)

    def test_pieces_of_any_texts(self):
        machine = read_machine(GUARD)
        papers, last = wall_papers(machine, "w", [("~a",), ("~a", "b")])
        self.assertIs(wall_shown(machine, "w", [("~a",), ("~a", "b")], (papers, last)), True)
        for piece in (("b", "~a"), ("~a", "~a"), ("~a", "a"), ("a", "~a"), ("~a", "b", "b"), ("~a", "b", "z"), ("~a", "~~b"),
                      ("~a", ""), ("~a", "~"), ("~a", "0"), ("~a", "1"), ("~a", "~s"), ("~a", "g"), ("~a", "w"), ("~a", "B"),
                      ("~a", " b"), ("~a", "a b"), ("", ), ("~~a",), ("0", "1"), ("~a", "~0"), ("s",), ("~g",), ()):
            self.assertIs(wall_shown(machine, "w", [("~a",), piece], (papers, last)), False, piece)
            self.assertIs(wall_shown(machine, "w", [piece, ("~a",)], (papers, last)), False, piece)
            self.assertIs(wall_shown(machine, "w", [piece], (papers[:1], last)), False, piece)

    def test_a_piece_that_no_first_bit_keeps(self):
        # c stays as it is: each piece of it holds on, but for one of the first stands.
        machine = read_machine("keep c -\nkeep d 1\ngate g c ~c\nnever w g")
        wish = Numbers(machine).number("g")
        last = ([(0, 1, 1)], 4)
        self.assertTrue(refutes(Numbers(machine).clauses() + [[1]], [wish], last))
        for piece, wanted in ((("c",), False), (("~c",), False), (("~d",), False), (("d",), True), (("c", "d"), True)):
            numbers = Numbers(machine)
            clauses = numbers.clauses() + [[numbers.number(literal) for literal in piece]]
            paper = ([], len(clauses) - 1)
            self.assertTrue(refutes(clauses, piece_wants(machine, piece), paper))
            self.assertIs(wall_shown(machine, "w", [piece], ([paper], last)), wanted, piece)

    def test_of_another_wish_or_machine(self):
        machine = read_machine(GUARD)
        papers = wall_papers(machine, "w", [("~a",)])
        self.assertIs(wall_shown(machine, "w", [("~a",)], papers), True)
        self.assertIs(wall_shown(machine, "c", [("~a",)], papers), False)
        other = read_machine(GUARD.replace("next a g", "next a s"))
        self.assertIs(wall_shown(other, "w", [("~a",)], papers), False)
        other = read_machine(GUARD.replace("keep a 0", "keep a 1"))
        self.assertIs(wall_shown(other, "w", [("~a",)], papers), False)

    def test_drawn_walls(self):
        met = {True: 0, False: 0}
        for rng, machine, wish in small_machines(541, 160):
            wall = some_wall(rng, machine)
            fault = fault_due(machine, wish, wall)
            if fault is None:
                papers = wall_papers(machine, wish, wall)
                self.assertIs(wall_shown(machine, wish, wall, papers), True)
                met[True] += 1
            else:
                # Papers of another wall, as many as they must be.
                papers = ([([], rng.randrange(9)) for piece in wall], ([], rng.randrange(9)))
                self.assertIs(wall_shown(machine, wish, wall, papers), False)
                met[False] += 1
        self.assertGreater(min(met.values()), 60)

    def test_spoilt_walls_and_papers(self):
        met = {True: 0, False: 0}
        for rng, machine, wish in small_machines(542, 160):
            wall = tight_wall(machine)
            if fault_due(machine, wish, wall) is not None:
                continue
            papers = wall_papers(machine, wish, wall)
            for count in range(12):
                changed = spoilt(rng, machine, wall, papers)
                handed = (copy.deepcopy(changed), fields(machine))
                told = wall_shown(machine, wish, *changed)
                self.assertIs(told, reckoned_shown(machine, wish, *changed), (fields(machine), changed))
                self.assertEqual((changed, fields(machine)), handed)
                if told:
                    self.assertIsNone(fault_due(machine, wish, changed[0]))
                met[told] += 1
        self.assertGreater(min(met.values()), 60, met)

    def test_what_is_no_wall_is_never_shown(self):
        seen = 0
        for rng, machine, wish in small_machines(543, 120):
            wall = tight_wall(machine)
            if fault_due(machine, wish, wall) is not None:
                continue
            papers = wall_papers(machine, wish, wall)
            for place in range(len(wall)):
                fewer = wall[:place] + wall[place + 1:]
                for told in (papers[0][:place] + papers[0][place + 1:], papers[0][:-1], papers[0][1:]):
                    if fault_due(machine, wish, fewer) is not None:
                        self.assertIs(wall_shown(machine, wish, fewer, (told, papers[1])), False)
                        seen += 1
        self.assertGreater(seen, 100)

    def test_stands_far_too_many_to_be_gone_through(self):
        named = ["k" + letter for letter in "abcdefghijklmnop"]
        switches = ["s" + letter for letter in "abcdefghijkl"]
        gates = [("g" + name, ahead, switches[place % 12]) for place, (ahead, name) in enumerate(zip(named, named[1:]))]
        nexts = {name: "g" + name for name in named[1:]}
        machine = Machine(switches, dict.fromkeys(named, 0), gates, nexts, {"w": named[-1]}, {})
        wall = [("~" + name,) for name in named]
        papers = wall_papers(machine, "w", wall)
        self.assertIs(wall_shown(machine, "w", wall, papers), True)
        self.assertIs(wall_shown(machine, "w", wall[1:], (papers[0][1:], papers[1])), False)
        self.assertIs(wall_shown(machine, "w", wall[1:] + wall[:1], papers), False)
        rng = random.Random(544)
        machine = tangled_machine(rng, 12, 16, 60)
        for wish in machine.nevers:
            papers = ([([], place) for place in range(3)], ([], 4))
            self.assertIs(wall_shown(machine, wish, [drawn_piece(rng, machine, 4)] * 3, papers), False)


if __name__ == "__main__":
    unittest.main()
