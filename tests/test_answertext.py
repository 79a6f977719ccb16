"""[122]: texts of answers, read and checked."""

import random
import re
import unittest

from everguard.answers import answers
from everguard.answertext import checked
from everguard.errors import BadAnswer, BadMachine, GuardError
from everguard.machinetext import machine_text, read_machine
from everguard.someday import shadow
from helper import (
    great_machines, is_proper_piece, knotted_machine, lasso_fits, mixed_machines, read_back, row_fits, wall_faults,
)

# The switches and keepers: s and t; a, b and c. w can never be; x can; v fails; u does not.
GUARD = """switch s
switch t
keep a 0
keep b 1
keep c -
gate g s a
next a g
next c t
never w g
never x c
some v a
some u b"""
RIGHT = {
    "w": "wall w\npiece ~a\n",
    "x": "row x 010\nstep 01\nstep 00\n",
    "v": "lasso v 010 0\nstep 00\n",
}
BARE = "never w 1\nsome v 0"


def first_fault(machine, told):
    """The number of the first row that is not so written, by the words of [122], or None."""
    def bits(count):
        return "-" if count == 0 else "[01]{" + str(count) + "}"

    stand, given = bits(len(machine.keepers)), bits(len(machine.switches))
    rows = [(place, row.split(" ")) for place, row in enumerate(told.split("\n"))]
    rows = [(place, [word for word in words if word]) for place, words in rows]
    rows = [(place, words) for place, words in rows if words]
    head = None
    for spot, (place, words) in enumerate(rows):
        row = " ".join(words)
        behind = " ".join(rows[spot + 1][1]) if spot + 1 < len(rows) else ""
        fine = False
        if words[0] == "wall" and len(words) == 2:
            fine = words[1] in machine.nevers or words[1] in machine.somes
        elif words[0] == "row":
            fine = re.fullmatch("row [a-z]+ " + stand, row) and words[1] in machine.nevers
            fine = fine and re.fullmatch("step " + given, behind)
        elif words[0] == "lasso":
            fine = re.fullmatch("lasso [a-z]+ " + stand + " (0|[1-9][0-9]{0,5})", row) and words[1] in machine.somes
            fine = fine and re.fullmatch("step " + given, behind)
        elif words[0] == "piece" and head is not None and head[0] == "wall":
            of = machine if head[1] in machine.nevers else shadow(machine, head[1])
            fine = is_proper_piece(of, tuple(words[1:]))
        elif words[0] == "step" and head is not None and head[0] != "wall":
            fine = re.fullmatch("step " + given, row)
        if not fine:
            return place
        if words[0] in ("wall", "row", "lasso"):
            head = words
    return None


def reckoned_right(machine, told):
    """The wishes that have a right answer in a text without fault, small machines gone through."""
    right = set()
    for wish, word, *rest in read_back(told):
        if word == "wall":
            of = machine if wish in machine.nevers else shadow(machine, wish)
            fine = wall_faults(of, wish, rest[0]) == []
        else:
            fine = (row_fits if word == "row" else lasso_fits)(machine, wish, *rest)
        if fine:
            right.add(wish)
    return [wish for wish in list(machine.nevers) + list(machine.somes) if wish in right]


class Checking(unittest.TestCase):
    def refused(self, text, told, place):
        with self.assertRaises(BadAnswer) as caught:
            checked(text, told)
        self.assertEqual(caught.exception.place, place, told)
        self.assertIsInstance(caught.exception, GuardError)


class Right(Checking):
    def test_one_of_each(self):
        for wish, told in RIGHT.items():
            self.assertEqual(checked(GUARD, told), [wish])
        self.assertEqual(checked(GUARD, RIGHT["v"] + RIGHT["x"] + RIGHT["w"]), ["w", "x", "v"])
        self.assertEqual(checked(GUARD, ""), [])
        self.assertEqual(checked(GUARD, " \n\n   \n"), [])

    def test_all_that_answers_tells(self):
        self.assertEqual(checked(GUARD, answers(GUARD)), ["w", "x", "v", "u"])
        self.assertEqual(checked(BARE, answers(BARE)), ["w", "v"])
        self.assertEqual(checked("", ""), [])

    def test_blanks(self):
        told = "\n  wall   w  \n\n piece ~a\n   \n\nrow  x   010\n\n \nstep 01 \n\n  step  00\n\n\nlasso v 010  0\n  \nstep 00"
        self.assertEqual(checked(GUARD, told), ["w", "x", "v"])

    def test_the_last_line_feed_may_lack(self):
        self.assertEqual(checked(GUARD, RIGHT["x"].rstrip("\n")), ["x"])

    def test_one_right_answer_of_several_is_enough(self):
        wrong = "row x 010\nstep 00\nstep 00\n"
        self.assertEqual(checked(GUARD, wrong), [])
        self.assertEqual(checked(GUARD, wrong + RIGHT["x"]), ["x"])
        self.assertEqual(checked(GUARD, RIGHT["x"] + wrong), ["x"])
        self.assertEqual(checked(GUARD, "wall x\n" + RIGHT["x"] + "wall x\npiece ~c\n" + RIGHT["x"]), ["x"])
        self.assertEqual(checked(GUARD, "wall v\n" + RIGHT["v"] + wrong), ["v"])

    def test_no_keepers_and_no_switches(self):
        self.assertEqual(checked(BARE, "row w -\nstep -\nlasso v - 0\nstep -\nstep -"), ["w", "v"])
        self.assertEqual(checked("never w 0\nsome v 1", "wall w"), ["w"])


class Wrong(Checking):
    def test_rows_that_do_not_come_there(self):
        for told in ("row x 010\nstep 01", "row x 110\nstep 01\nstep 00", "row x 000\nstep 01\nstep 00",
                     "row x 010\nstep 01\nstep 00\nstep 00", "row w 010\nstep 11\nstep 11"):
            self.assertEqual(checked(GUARD, told), [], told)
        self.assertEqual(checked(GUARD, "row x 011\nstep 00"), ["x"])

    def test_walls_that_are_none(self):
        for told in ("wall w", "wall w\npiece a", "wall w\npiece", "wall w\npiece ~a\npiece", "wall w\npiece ~a\npiece ~c",
                     "wall w\npiece b", "wall w\npiece ~a b", "wall x", "wall x\npiece ~c", "wall x\npiece ~a"):
            self.assertEqual(checked(GUARD, told), [], told)
        self.assertEqual(checked(GUARD, "wall w\npiece ~a\npiece ~a\npiece b"), ["w"])

    def test_walls_of_the_shadow(self):
        shade = shadow(read_machine(GUARD), "u")
        more = [name for name in shade.keepers if name not in ("a", "b", "c")]
        wall = [row for row in answers(GUARD).split("wall u\n")[1].split("\n") if row.startswith("piece")]
        self.assertEqual(checked(GUARD, "\n".join(["wall u"] + wall)), ["u"])
        self.assertEqual(checked(GUARD, "wall u"), [])
        self.assertEqual(checked(GUARD, f"wall u\npiece a {more[0]}"), [])
        # The keepers that the shadow has more are none of the machine's.
        self.refused(GUARD, f"wall w\npiece ~a\npiece {more[0]}", 2)
        self.refused(GUARD, f"wall u\npiece {more[0]} a", 1)

    def test_lassos_that_do_not_walk(self):
        for told in ("lasso v 010 1\nstep 00", "lasso v 110 0\nstep 00", "lasso v 010 0\nstep 01", "lasso v 010 999999\nstep 00",
                     "lasso u 010 0\nstep 00"):
            self.assertEqual(checked(GUARD, told), [], told)
        self.assertEqual(checked(GUARD, "lasso v 010 1\nstep 01\nstep 01"), ["v"])
        self.assertEqual(checked(GUARD, "lasso v 010 2\nstep 00\nstep 01\nstep 11\nstep 01"), ["v"])


class Faults(Checking):
    def test_other_words(self):
        for row in ("walls w", "Wall w", "wall", "wall w w", "wall w ~a", "row", "row x", "row x 010 0", "lasso v 010",
                    "lasso v 010 0 0", "lasso", "steps 00", "x", "-", "never w g", "~", "row x 0 1 0"):
            self.refused(GUARD, row + "\nstep 00\nstep 00", 0)
            self.refused(GUARD, "\n\n" + RIGHT["x"] + "\n" + row + "\nstep 00", 6)

    def test_pieces_and_steps_where_none_can_stand(self):
        self.refused(GUARD, "piece ~a", 0)
        self.refused(GUARD, "step 00", 0)
        self.refused(GUARD, "\n\npiece", 2)
        self.refused(GUARD, "wall w\nstep 00", 1)
        self.refused(GUARD, "wall w\npiece ~a\nstep 00", 2)
        self.refused(GUARD, "row x 010\nstep 01\npiece ~a", 2)
        self.refused(GUARD, "lasso v 010 0\nstep 00\nstep 00\npiece", 3)

    def test_rows_and_lassos_without_steps(self):
        for head in ("row x 010", "lasso v 010 0"):
            self.refused(GUARD, head, 0)
            self.refused(GUARD, "\n" + head + "\n\n", 1)
            self.refused(GUARD, head + "\nwall w\npiece ~a", 0)
            self.refused(GUARD, head + "\n" + RIGHT["x"], 0)
            self.refused(GUARD, head + "\npiece ~a", 0)
            self.refused(GUARD, RIGHT["w"] + head, 2)
            self.refused(GUARD, RIGHT["w"] + head + "\n\n" + head + "\nstep 00", 2)

    def test_a_step_that_is_not_so_written_is_none(self):
        for head in ("row x 010", "lasso v 010 0"):
            for step in ("step", "step 0", "step 000", "step 0 0", "step -", "step 02", "steps 00", "nonsense"):
                self.refused(GUARD, head + "\n" + step, 0)
                self.refused(GUARD, "\n" + head + "\n\n" + step + "\nstep 00", 1)
                self.refused(GUARD, head + "\nstep 00\n" + step + "\nstep 00", 2)

    def test_wishes(self):
        self.refused(GUARD, "wall z", 0)
        self.refused(GUARD, "wall g", 0)
        self.refused(GUARD, "wall ~w", 0)
        self.refused(GUARD, "row z 010\nstep 00", 0)
        self.refused(GUARD, "row v 010\nstep 00", 0)
        self.refused(GUARD, "lasso x 010 0\nstep 00", 0)
        self.refused(GUARD, "lasso a 010 0\nstep 00", 0)
        self.refused(GUARD, RIGHT["w"] + "\n" + "lasso w 010 0\nstep 00", 3)

    def test_pieces_literals(self):
        for part in ("g", "s", "~s", "z", "0", "1", "~0", "~~a", "~", "A", "b a", "a a", "a ~a", "~c ~b", "a b c c", "w", "-"):
            self.refused(GUARD, "wall w\npiece ~a\npiece " + part, 2)
            self.refused(GUARD, "wall u\npiece " + part, 1)
        self.assertEqual(checked(GUARD, "wall w\npiece ~a\npiece a b c\npiece ~a ~b ~c\npiece ~a c\npiece b"), ["w"])

    def test_bits(self):
        for bits in ("", "01", "0100", "-", "012", "0 10", "01a", "0-0", "010-", "--"):
            self.refused(GUARD, f"row x {bits}\nstep 00", 0)
            self.refused(GUARD, f"lasso v {bits} 0\nstep 00", 0)
        for told in ("row w 0\nstep -", "row w\nstep -", "row w -\nstep 0", "row w --\nstep -", "row w -\nstep", "lasso v 0 0\nstep -"):
            self.refused(BARE, told, 0)

    def test_the_place_of_a_lasso(self):
        for at in ("00", "01", "007", "1000000", "-1", "+1", "a", "1a", "~0", "0x0", "1_0", "1.0"):
            self.refused(GUARD, f"lasso v 010 {at}\nstep 00", 0)
        for at in ("0", "1", "10", "999999", "100000"):
            self.assertEqual(checked(GUARD, f"lasso v 010 {at}\nstep 00"), ["v"] if at == "0" else [])

    def test_the_first_of_several(self):
        self.refused(GUARD, "wall w\npiece z\nwall z\nstep 0", 1)
        self.refused(GUARD, "row x 010\nstep 0\nwall z", 0)
        self.refused(GUARD, "row x 010\nstep 00\nrow x 010\nwall z", 2)

    def test_the_first_text_is_looked_at_first(self):
        for text, place, word in (("switch s\nswitch s", 1, "twice"), ("nonsense", 0, "row"), ("\nnever w z", 1, "name")):
            with self.assertRaises(BadMachine) as caught:
                checked(text, "nonsense")
            self.assertEqual((caught.exception.place, caught.exception.word), (place, word))


def changed(rng, told):
    """The text with a row or a word of it changed, taken out, or put there twice."""
    rows = told.split("\n")
    place = rng.randrange(len(rows))
    words = rows[place].split(" ")
    kind = rng.randrange(7)
    if kind == 0:
        rows.pop(place)
    elif kind == 1:
        rows.insert(place, rng.choice(rows))
    elif kind == 2:
        rows.insert(place, rng.choice(("", "  ", "piece", "step 0", "step -", "nonsense", "wall same")))
    elif kind == 3:
        words[rng.randrange(len(words))] = rng.choice(("0", "1", "-", "00", "~a", "row", "wall", "lasso", "same", "some"))
        rows[place] = " ".join(words)
    elif kind == 4:
        spot = rng.randrange(len(words))
        words[spot] = words[spot].replace("0", "9").replace("1", "0").replace("9", "1")
        rows[place] = " ".join(words)
    elif kind == 5:
        words.append(rng.choice(words))
        rows[place] = "  ".join(words)
    else:
        words[-1] = words[-1][:-1] if rng.randrange(2) else words[-1].replace("~", "")
        rows[place] = " ".join(words)
    return "\n".join(rows)


class Chance(Checking):
    def test_drawn_texts(self):
        met = {"fault": 0, "all": 0, "fewer": 0}
        machines = [machine for rng, machine in mixed_machines(1221, 60) if len(machine.keepers) < 4]
        rng = random.Random(1222)
        machines += [knotted_machine(rng, rng.randint(0, 1), 2, 12) for count in range(15)]
        for machine in machines:
            text = machine_text(machine)
            told = answers(text)
            every = list(machine.nevers) + list(machine.somes)
            self.assertEqual(checked(text, told), every)
            for count in range(25):
                other = changed(rng, told) if rng.randrange(3) else changed(rng, changed(rng, told))
                fault = first_fault(machine, other)
                if fault is not None:
                    self.refused(text, other, fault)
                    met["fault"] += 1
                else:
                    wanted = reckoned_right(machine, other)
                    self.assertEqual(checked(text, other), wanted, (text, other))
                    met["all" if wanted == every else "fewer"] += 1
        self.assertGreater(min(met.values()), 100, met)


class Great(Checking):
    def test_machines_of_twelve_switches_sixteen_keepers_sixty_gates(self):
        for switches, seed in ((12, 1223), (1, 1224)):
            for rng, machine in great_machines(seed, 12, switches):
                text = machine_text(machine)
                told = answers(text)
                if len(told) < 20000:
                    self.assertEqual(checked(text, told), list(machine.nevers) + list(machine.somes))
                    self.assertEqual(checked(text, ""), [])
                    self.refused(text, told + "nonsense", told.count("\n"))


if __name__ == "__main__":
    unittest.main()
