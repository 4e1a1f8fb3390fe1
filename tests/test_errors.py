"""Tests of point 3: the exception classes."""

import unittest

from winbytwo import errors

NAMES = ["InvalidRace", "InvalidPoints", "InvalidScore", "InvalidSide",
         "InvalidNumber", "MatchOver", "NothingToUndo", "Unreadable"]
CLASSES = [getattr(errors, name) for name in NAMES]


class ClassesTest(unittest.TestCase):
    def test_match_error_stands_directly_below_value_error(self):
        self.assertEqual(errors.MatchError.__bases__, (ValueError,))

    def test_the_others_stand_directly_below_match_error(self):
        for made in CLASSES:
            self.assertEqual(made.__bases__, (errors.MatchError,))

    def test_no_class_but_match_error_is_above_another_one(self):
        every = CLASSES + [errors.MatchError]
        above = {(low.__name__, high.__name__) for low in every for high in every
                 if low is not high and issubclass(low, high)}
        self.assertEqual(above, {(name, "MatchError") for name in NAMES})

    def test_each_class_is_defined_in_its_file(self):
        for made in CLASSES + [errors.MatchError]:
            self.assertEqual(made.__module__, "winbytwo.errors")


class ValueTest(unittest.TestCase):
    VALUES = [None, 0, -7, 10 ** 30, (3, 3), "x", "", [1, 2]]

    def test_argument_by_position(self):
        for made in CLASSES:
            for value in self.VALUES:
                self.assertIs(made(value).value, value)

    def test_argument_by_name(self):
        for made in CLASSES:
            for value in self.VALUES:
                self.assertIs(made(value=value).value, value)

    def test_there_is_exactly_one_argument(self):
        for made in CLASSES:
            self.assertRaises(TypeError, made)
            self.assertRaises(TypeError, made, 1, 2)
            self.assertRaises(TypeError, made, number=1)

    def test_each_is_caught_as_itself_and_as_match_error(self):
        for made in CLASSES:
            for caught in (made, errors.MatchError, ValueError):
                with self.assertRaises(caught) as told:
                    raise made(5)
                self.assertEqual(told.exception.value, 5)


if __name__ == "__main__":
    unittest.main()
