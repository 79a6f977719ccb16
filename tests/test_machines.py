"""[13], [15]: machines as values, turned literals, nexts."""

import unittest

from everguard.machines import Machine, next_of, turned
from everguard.machinetext import read_machine


def parts():
    return (
        ["s", "t"],
        {"k": 0, "a": 1, "m": None},
        [("g", "s", "~k"), ("b", "g", "1")],
        {"m": "g", "k": "~b"},
        {"z": "g", "y": "~m"},
        {"x": "k", "w": "0"},
    )


class Fields(unittest.TestCase):
    def test_fields_are_as_handed_in_and_in_their_order(self):
        made = Machine(*parts())
        self.assertEqual(made.switches, ["s", "t"])
        self.assertEqual(list(made.keepers.items()), [("k", 0), ("a", 1), ("m", None)])
        self.assertEqual(made.gates, [("g", "s", "~k"), ("b", "g", "1")])
        self.assertEqual(list(made.nexts.items()), [("m", "g"), ("k", "~b")])
        self.assertEqual(list(made.nevers.items()), [("z", "g"), ("y", "~m")])
        self.assertEqual(list(made.somes.items()), [("x", "k"), ("w", "0")])

    def test_kinds(self):
        for made in (Machine(*parts()), read_machine("switch a\nkeep k -\ngate g a k\nnever w g")):
            self.assertIs(type(made.switches), list)
            self.assertIs(type(made.gates), list)
            self.assertTrue(all(type(gate) is tuple for gate in made.gates))
            for field in (made.keepers, made.nexts, made.nevers, made.somes):
                self.assertIs(type(field), dict)

    def test_nexts_may_lack_keepers_and_are_not_filled_up(self):
        made = Machine([], {"a": 0, "b": 1}, [], {"b": "a"}, {}, {})
        self.assertEqual(made.nexts, {"b": "a"})
        self.assertEqual((next_of(made, "a"), next_of(made, "b")), ("a", "a"))

    def test_a_machine_of_nothing(self):
        made = Machine([], {}, [], {}, {}, {})
        self.assertEqual((made.switches, made.keepers, made.gates), ([], {}, []))
        self.assertEqual((made.nexts, made.nevers, made.somes), ({}, {}, {}))


class Copies(unittest.TestCase):
    def test_changing_what_was_handed_in_changes_no_machine(self):
        handed = parts()
        made = Machine(*handed)
        handed[0].append("u")
        handed[1]["k"] = 1
        handed[1]["new"] = 0
        handed[2].append(("h", "s", "s"))
        handed[3].clear()
        handed[4]["z"] = "0"
        handed[5].pop("x")
        untouched = parts()
        told = (made.switches, made.keepers, made.gates, made.nexts, made.nevers, made.somes)
        self.assertEqual(told, untouched)

    def test_two_machines_of_the_same_lists_share_none(self):
        handed = parts()
        one = Machine(*handed)
        other = Machine(*handed)
        for field in ("switches", "keepers", "gates", "nexts", "nevers", "somes"):
            self.assertIsNot(getattr(one, field), getattr(other, field), field)

    def test_one_dict_handed_in_twice_is_copied_for_each(self):
        wishes = {}
        made = Machine([], wishes, [], wishes, wishes, wishes)
        dicts = (made.keepers, made.nexts, made.nevers, made.somes)
        self.assertEqual(len({id(field) for field in dicts}), 4)


class Literals(unittest.TestCase):
    def test_turned_of_each_sort(self):
        pairs = (("a", "~a"), ("longname", "~longname"), ("0", "1"))
        for one, other in pairs:
            self.assertEqual(turned(one), other)
            self.assertEqual(turned(other), one)

    def test_turned_twice_is_the_same(self):
        for literal in ("a", "~a", "abcdefgh", "~abcdefgh", "0", "1"):
            self.assertEqual(turned(turned(literal)), literal)

    def test_next_of_with_a_next(self):
        made = Machine(*parts())
        self.assertEqual(next_of(made, "k"), "~b")
        self.assertEqual(next_of(made, "m"), "g")

    def test_next_of_without_a_next(self):
        self.assertEqual(next_of(Machine(*parts()), "a"), "a")

    def test_next_of_a_constant(self):
        made = Machine([], {"a": 0, "b": 0, "c": 0}, [], {"a": "1", "b": "0", "c": "~c"}, {}, {})
        self.assertEqual([next_of(made, name) for name in "abc"], ["1", "0", "~c"])


if __name__ == "__main__":
    unittest.main()
