"""[11], [12], [14]: machines' texts."""

import random
import unittest

from everguard.errors import BadMachine
from everguard.machines import Machine
from everguard.machinetext import machine_text, read_machine
from helper import fields, names, some_machine


def text(*rows):
    return "\n".join(rows)


class Refusals(unittest.TestCase):
    def refused(self, told, place, word):
        with self.assertRaises(BadMachine, msg=repr(told)) as taken:
            read_machine(told)
        self.assertEqual((taken.exception.place, taken.exception.word), (place, word), repr(told))

    def refused_behind(self, ahead, row, word):
        """Refused with the word as the last row, which is one more than those ahead."""
        read_machine(text(*ahead))
        self.refused(text(*ahead, row), len(ahead), word)
        # A right row behind it does not change what is refused.
        self.refused(text(*ahead, row, "switch zz"), len(ahead), word)


class Forms(unittest.TestCase):
    def test_all_forms(self):
        made = read_machine(text(
            "switch s",
            "keep a 0",
            "keep b 1",
            "keep c -",
            "gate g s ~a",
            "gate h 0 1",
            "next c g",
            "next a ~h",
            "never w g",
            "some v ~b",
            "never u 1",
            "some t 0",
        ))
        self.assertEqual(fields(made), [
            ["s"],
            [("a", 0), ("b", 1), ("c", None)],
            [("g", "s", "~a"), ("h", "0", "1")],
            [("c", "g"), ("a", "~h")],
            [("w", "g"), ("u", "1")],
            [("v", "~b"), ("t", "0")],
        ])
        self.assertIs(type(made.keepers["a"]), int)
        self.assertIs(type(made.keepers["b"]), int)

    def test_fields_are_in_the_order_of_the_rows(self):
        made = read_machine(text(
            "keep z 0", "switch y", "gate x y z", "never n x", "switch a", "keep b 1", "gate c a b",
            "next b c", "some m c", "next z x", "never k ~c", "some e a",
        ))
        self.assertEqual(fields(made), [
            ["y", "a"],
            [("z", 0), ("b", 1)],
            [("x", "y", "z"), ("c", "a", "b")],
            [("b", "c"), ("z", "x")],
            [("n", "x"), ("k", "~c")],
            [("m", "c"), ("e", "a")],
        ])

    def test_blanks_count_for_nothing(self):
        plain = text("switch a", "keep k -", "gate g a ~k", "next k g", "never w g", "some v k")
        spaced = text(
            "   switch    a", "keep k   -  ", "  gate g   a  ~k ", " next  k  g", "never   w   g  ", " some v  k ",
        )
        self.assertEqual(fields(read_machine(spaced)), fields(read_machine(plain)))

    def test_rows_without_words_are_passed_over(self):
        made = read_machine("\n\n  \nswitch a\n\n   \n\nnever w a\n\n")
        self.assertEqual(fields(made), [["a"], [], [], [], [("w", "a")], []])

    def test_texts_without_a_row(self):
        for told in ("", " ", "\n", "   \n\n  \n"):
            self.assertEqual(fields(read_machine(told)), [[], [], [], [], [], []], repr(told))

    def test_a_name_of_one_letter_and_of_eight(self):
        made = read_machine(text("switch z", "keep abcdefgh -", "gate zzzzzzzz abcdefgh ~z", "never qwertyui ~zzzzzzzz"))
        self.assertEqual(fields(made), [
            ["z"], [("abcdefgh", None)], [("zzzzzzzz", "abcdefgh", "~z")], [], [("qwertyui", "~zzzzzzzz")], [],
        ])

    def test_all_letters(self):
        letters = "abcdefghijklmnopqrstuvwxyz"
        for letter in letters:
            self.assertEqual(read_machine(f"switch {letter}").switches, [letter])

    def test_names_that_are_words_of_the_rows(self):
        made = read_machine(text(
            "switch switch", "keep keep 0", "gate gate keep ~switch", "keep next 1", "next next gate", "next keep next",
            "never never next", "some some ~gate", "gate some gate keep",
        ))
        self.assertEqual(fields(made), [
            ["switch"],
            [("keep", 0), ("next", 1)],
            [("gate", "keep", "~switch"), ("some", "gate", "keep")],
            [("next", "gate"), ("keep", "next")],
            [("never", "next")],
            [("some", "~gate")],
        ])

    def test_wishes_may_be_called_like_switches_keepers_and_gates(self):
        made = read_machine(text("switch a", "keep b 0", "gate c a b", "never a b", "some b c", "never c 1"))
        self.assertEqual((made.nevers, made.somes), ({"a": "b", "c": "1"}, {"b": "c"}))

    def test_a_next_may_have_its_own_keeper_and_a_gate_one_name_twice(self):
        made = read_machine(text("keep k 0", "next k ~k", "gate g k ~k", "gate h k k"))
        self.assertEqual((made.nexts, made.gates), ({"k": "~k"}, [("g", "k", "~k"), ("h", "k", "k")]))


class Row(Refusals):
    AHEAD = ("switch a", "keep k 0", "gate g a k")

    def test_other_words_and_counts_of_words(self):
        rows = (
            "a", "switch", "switch b c", "Switch b", "SWITCH b", "switches b", "switc b", "0", "1", "-", "~", "~a",
            "keep", "keep b", "keep b 0 1", "keeper b 0", "Keep b 0",
            "gate", "gate b", "gate b a", "gate b a k a", "gates b a k", "and b a k",
            "next", "next k", "next k a a", "nexts k a",
            "never", "never w", "never w a a", "nevers w a", "wish w a",
            "some", "some w", "some w a a", "someday w a",
            "b switch", "# switch b", "switch b #", "switch,b", "switchb",
        )
        for row in rows:
            self.refused_behind(self.AHEAD, row, "row")

    def test_first_bits_that_are_none(self):
        for first in ("2", "00", "01", "~0", "~1", "--", "+", "x", "a", "~", "None", "-1", "0-"):
            self.refused_behind(self.AHEAD, f"keep b {first}", "row")

    def test_names_that_are_none(self):
        wrong = (
            "abcdefghi", "aaaaaaaaaaaaaaaa", "A", "aB", "a1", "1a", "0", "1", "-", "~b", "b~", "~", "a_b", "a-b", "a.",
            "a,b", "_", "a'",
        )
        for name in wrong:
            for row in (f"switch {name}", f"keep {name} 0", f"gate {name} a k", f"next {name} a",
                        f"never {name} a", f"some {name} a"):
                self.refused_behind(self.AHEAD, row, "row")

    def test_literals_that_are_none(self):
        wrong = (
            "~", "~~a", "~~", "~0", "~1", "2", "00", "11", "01", "10", "-", "-a", "A", "~A", "a~", "a1", "!a",
            "abcdefghi", "~abcdefghi", "a,", "a_", "+a", "~a~",
        )
        for literal in wrong:
            for row in (f"gate b {literal} a", f"gate b a {literal}", f"next k {literal}", f"never w {literal}",
                        f"some w {literal}"):
                self.refused_behind(self.AHEAD, row, "row")

    def test_eight_letters_behind_the_sign_are_a_literal(self):
        made = read_machine(text("switch abcdefgh", "never w ~abcdefgh"))
        self.assertEqual(made.nevers, {"w": "~abcdefgh"})


class Twice(Refusals):
    AHEAD = ("switch a", "keep k 0", "gate g a k", "next k a", "never w a", "some v a")

    def test_switches_keepers_and_gates_share_their_names(self):
        for name in ("a", "k", "g"):
            for row in (f"switch {name}", f"keep {name} 0", f"keep {name} -", f"gate {name} a k"):
                self.refused_behind(self.AHEAD, row, "twice")

    def test_a_keeper_that_has_a_next(self):
        for row in ("next k a", "next k g", "next k 0"):
            self.refused_behind(self.AHEAD, row, "twice")

    def test_wishes_share_their_names(self):
        for name in ("w", "v"):
            for form in ("never", "some"):
                self.refused_behind(self.AHEAD, f"{form} {name} k", "twice")

    def test_a_switch_may_be_called_like_a_wish_told_ahead(self):
        made = read_machine(text(*self.AHEAD, "switch w", "gate v w a"))
        self.assertEqual((made.switches, made.gates[-1]), (["a", "w"], ("v", "w", "a")))


class Name(Refusals):
    AHEAD = ("switch a", "keep k 0", "gate g a k", "never w a")

    def test_literals_of_names_that_were_not_told(self):
        for literal in ("b", "~b", "w", "~w"):
            for row in (f"gate h {literal} a", f"gate h a {literal}", f"gate h {literal} {literal}",
                        f"next k {literal}", f"never x {literal}", f"some x {literal}"):
                self.refused_behind(self.AHEAD, row, "name")

    def test_a_gate_does_not_know_its_own_name(self):
        for row in ("gate h h a", "gate h a ~h"):
            self.refused_behind(self.AHEAD, row, "name")

    def test_a_next_of_what_is_no_keeper(self):
        for name in ("a", "g", "w", "b"):
            for literal in ("a", "0", "b"):
                self.refused_behind(self.AHEAD, f"next {name} {literal}", "name")

    def test_names_that_are_told_behind(self):
        self.refused(text("gate g a a", "switch a"), 0, "name")
        self.refused(text("next k 0", "keep k 0"), 0, "name")
        self.refused(text("keep k 0", "next k a", "switch a"), 1, "name")
        self.refused(text("never w a", "switch a"), 0, "name")
        self.refused(text("some w ~a", "switch a"), 0, "name")
        self.refused(text("switch a", "gate g a h", "gate h a a"), 1, "name")


class Many(Refusals):
    def full(self):
        """A machine of as many switches, keepers, gates and wishes as there may be, with a next for each."""
        given = names(88)
        rows = [f"switch {name}" for name in given[:12]]
        rows += [f"keep {name} 0" for name in given[12:28]]
        rows += [f"gate {name} a b" for name in given[28:88]]
        rows += [f"next {name} a" for name in given[12:28]]
        rows += [f"never {name} a" for name in given[:5]]
        rows += [f"some {name} a" for name in given[5:8]]
        return rows

    def test_as_many_as_there_may_be(self):
        made = read_machine(text(*self.full()))
        self.assertEqual((len(made.switches), len(made.keepers), len(made.gates)), (12, 16, 60))
        self.assertEqual((len(made.nevers), len(made.somes), len(made.nexts)), (5, 3, 16))

    def test_one_more_of_each(self):
        for row in ("switch new", "keep new 0", "keep new -", "gate new a b", "never new a", "some new a"):
            self.refused_behind(self.full(), row, "many")

    def test_each_alone(self):
        given = names(61)
        for form, most in (("switch {}", 12), ("keep {} 1", 16), ("gate {} 0 1", 60), ("never {} 1", 8), ("some {} 0", 8)):
            rows = [form.format(name) for name in given[: most + 1]]
            read_machine(text(*rows[:most]))
            self.refused(text(*rows), most, "many")

    def test_wishes_of_both_sorts_count_together(self):
        given = names(9)
        for nevers in range(9):
            rows = [f"never {name} 0" for name in given[:nevers]] + [f"some {name} 0" for name in given[nevers:8]]
            read_machine(text(*rows))
            self.refused(text(*rows, f"never {given[8]} 0"), 8, "many")
            self.refused(text(*rows, f"some {given[8]} 0"), 8, "many")

    def test_one_full_sort_does_not_stop_the_others(self):
        rows = [f"switch {name}" for name in names(12)]
        made = read_machine(text(*rows, "keep new 0", "gate more a new", "next new more", "never w more"))
        self.assertEqual((len(made.switches), made.nexts), (12, {"new": "more"}))


class Due(Refusals):
    """Which word is due where a row has several faults, and which row where several have one."""

    def test_row_ahead_of_all_others(self):
        full = [f"switch {name}" for name in names(12)]
        self.refused(text("switch a", "switch a a"), 1, "row")
        self.refused(text("switch a", "keep a 2"), 1, "row")
        self.refused(text("switch a", "gate a a ~~a"), 1, "row")
        self.refused(text("switch a", "gate g b 2"), 1, "row")
        self.refused(text("never w q A"), 0, "row")
        self.refused(text(*full, "switch A"), 12, "row")
        self.refused(text("keep k 0", "next k k", "next k 7"), 2, "row")

    def test_twice_ahead_of_name(self):
        self.refused(text("switch a", "gate a b c"), 1, "twice")
        self.refused(text("keep k 0", "next k k", "next k other"), 2, "twice")
        self.refused(text("switch a", "never w a", "some w other"), 2, "twice")

    def test_twice_ahead_of_many(self):
        given = names(60)
        self.refused(text(*[f"switch {name}" for name in given[:12]], "switch a"), 12, "twice")
        self.refused(text(*[f"keep {name} 0" for name in given[:16]], "keep a 0"), 16, "twice")
        self.refused(text(*[f"gate {name} 0 0" for name in given[:60]], "gate a 0 0"), 60, "twice")
        self.refused(text(*[f"some {name} 0" for name in given[:8]], "never a 0"), 8, "twice")

    def test_name_ahead_of_many(self):
        given = names(60)
        self.refused(text(*[f"gate {name} 0 0" for name in given[:60]], "gate new 0 other"), 60, "name")
        self.refused(text(*[f"some {name} 0" for name in given[:8]], "never new other"), 8, "name")

    def test_the_first_row_at_fault_is_refused(self):
        self.refused(text("switch a", "gate g b b", "what is this", "switch a"), 1, "name")
        self.refused(text("switch a", "switch a", "what is this"), 1, "twice")
        self.refused(text("what is this", "switch a", "switch a"), 0, "row")

    def test_rows_without_words_count_in_the_number(self):
        self.refused("\n\nwhat", 2, "row")
        self.refused("   \nswitch a\n\n  \nswitch a", 4, "twice")
        self.refused("switch a\n\n\nnever w b\n\n", 3, "name")

    def test_a_row_with_blanks_at_its_ends_is_refused_likewise(self):
        self.refused("switch a\n    switch    a   ", 1, "twice")

    def test_what_was_refused_leaves_nothing_behind(self):
        self.refused("switch a\nkeep b 0\nwhat", 2, "row")
        self.assertEqual(fields(read_machine("")), [[], [], [], [], [], []])
        self.assertEqual(read_machine("switch a").switches, ["a"])


class Written(unittest.TestCase):
    def test_all_sorts_of_rows(self):
        made = Machine(
            ["s", "t"], {"k": 0, "a": 1, "m": None}, [("g", "s", "~k"), ("b", "g", "1")],
            {"m": "g", "k": "~b"}, {"z": "g", "y": "~m"}, {"x": "k", "w": "0"},
        )
        self.assertEqual(machine_text(made), text(
            "switch s", "switch t", "keep k 0", "keep a 1", "keep m -", "gate g s ~k", "gate b g 1",
            "next m g", "next k ~b", "never z g", "never y ~m", "some x k", "some w 0",
        ))

    def test_a_machine_without_any_row(self):
        made = Machine([], {}, [], {}, {}, {})
        self.assertEqual(machine_text(made), "")
        self.assertEqual(fields(read_machine(machine_text(made))), fields(made))

    def test_one_row_has_no_line_feed(self):
        self.assertEqual(machine_text(Machine(["a"], {}, [], {}, {}, {})), "switch a")
        self.assertEqual(machine_text(Machine([], {"a": None}, [], {}, {}, {})), "keep a -")
        self.assertEqual(machine_text(Machine([], {}, [], {}, {}, {"w": "1"})), "some w 1")

    def test_rows_are_put_in_order(self):
        told = "  some v 1\nnever  w 0\n\nkeep k -\nnext k 0\nswitch a\ngate g a k"
        wanted = text("switch a", "keep k -", "gate g a k", "next k 0", "never w 0", "some v 1")
        self.assertEqual(machine_text(read_machine(told)), wanted)

    def test_what_is_written_is_read_to_the_same_fields(self):
        rng = random.Random(11)
        for count in range(150):
            wishes = rng.randint(0, 8)
            made = some_machine(rng, rng.randint(0, 12), rng.randint(0, 16), rng.randint(0, 60), wishes)
            told = machine_text(made)
            again = read_machine(told)
            self.assertEqual(fields(again), fields(made))
            self.assertEqual(machine_text(again), told)


if __name__ == "__main__":
    unittest.main()
