"""[3]: the refusals' classes and their fields."""

import unittest

from everguard.errors import BadAnswer, BadMachine, GuardError, NoWall


class Classes(unittest.TestCase):
    def test_guard_error_stands_straight_under_value_error(self):
        self.assertEqual(GuardError.__bases__, (ValueError,))

    def test_each_refusal_stands_straight_under_guard_error(self):
        for refusal in (BadMachine, NoWall, BadAnswer):
            self.assertEqual(refusal.__bases__, (GuardError,), refusal)

    def test_none_stands_under_another_one(self):
        refusals = (BadMachine, NoWall, BadAnswer)
        for one in refusals:
            for other in refusals:
                if one is not other:
                    self.assertFalse(issubclass(one, other), (one, other))

    def test_each_can_be_taken_as_a_value_error(self):
        for made in (BadMachine(0, "row"), NoWall("first", 0), BadAnswer(0)):
            with self.assertRaises(ValueError):
                raise made
            with self.assertRaises(GuardError):
                raise made


class Fields(unittest.TestCase):
    def test_bad_machine(self):
        made = BadMachine(3, "twice")
        self.assertEqual((made.place, made.word), (3, "twice"))

    def test_no_wall(self):
        made = NoWall("step", 5)
        self.assertEqual((made.word, made.place), ("step", 5))

    def test_bad_answer(self):
        self.assertEqual(BadAnswer(7).place, 7)

    def test_fields_are_each_ones_own(self):
        one = BadMachine(1, "row")
        other = BadMachine(2, "many")
        self.assertEqual((one.place, one.word, other.place, other.word), (1, "row", 2, "many"))


if __name__ == "__main__":
    unittest.main()
