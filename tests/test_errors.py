"""The refusals: which stands under which, and what each carries."""

import unittest

from linkyard import errors

PLAIN = ["BadBytes", "BadCheck", "BadText", "BadBase", "BadInput", "BadLine", "NoMain", "TooGreat", "NoPart"]
NAMED = ["Lacking", "Twice", "WrongKind", "TooFar"]
UNDER_YARD = PLAIN + ["RowError"]
UNDER_ROW = ["BadRow"] + NAMED
ALL = ["YardError"] + UNDER_YARD + UNDER_ROW


def class_of(name):
    return getattr(errors, name)


def made(name):
    if name in NAMED:
        return class_of(name)("one", 7, "goal")
    if name in ["RowError", "BadRow"]:
        return class_of(name)("one", 7)
    return class_of(name)("words")


def expected_above(name):
    above = {name, "YardError"}
    if name in UNDER_ROW:
        above.add("RowError")
    return above


class WhichStandsUnderWhich(unittest.TestCase):
    def test_straight_bases(self):
        self.assertEqual(errors.YardError.__bases__, (ValueError,))
        for name in UNDER_YARD:
            self.assertEqual(class_of(name).__bases__, (errors.YardError,), name)
        for name in UNDER_ROW:
            self.assertEqual(class_of(name).__bases__, (errors.RowError,), name)

    def test_under_just_those_told_and_no_others(self):
        for name in ALL:
            above = {other for other in ALL if issubclass(class_of(name), class_of(other))}
            self.assertEqual(above, expected_above(name), name)

    def test_each_is_its_own_class_under_its_own_name(self):
        self.assertEqual(len({class_of(name) for name in ALL}), len(ALL))
        for name in ALL:
            self.assertEqual(class_of(name).__name__, name)

    def test_each_is_raised_and_taken_as_any_refusal(self):
        for name in ALL:
            with self.assertRaises(errors.YardError) as taken:
                raise made(name)
            self.assertIsInstance(taken.exception, class_of(name))
            self.assertIsInstance(taken.exception, ValueError)


class WhatTheyCarry(unittest.TestCase):
    def test_part_and_line(self):
        for name in ["RowError"] + UNDER_ROW:
            self.assertEqual((made(name).part, made(name).line), ("one", 7), name)

    def test_name_besides(self):
        for name in NAMED:
            self.assertEqual(made(name).name, "goal", name)

    def test_part_that_is_not_known(self):
        self.assertEqual((errors.BadRow("", 1).part, errors.BadRow("", 1).line), ("", 1))
        self.assertEqual(errors.Twice("", 600, "a").part, "")
        self.assertEqual(errors.Twice("", 600, "a").line, 600)

    def test_no_name_where_none_is_told(self):
        self.assertFalse(hasattr(made("RowError"), "name"))
        self.assertFalse(hasattr(made("BadRow"), "name"))

    def test_two_of_a_class_keep_apart(self):
        first, second = errors.Lacking("a", 1, "x"), errors.Lacking("b", 2, "y")
        self.assertEqual((first.part, first.line, first.name), ("a", 1, "x"))
        self.assertEqual((second.part, second.line, second.name), ("b", 2, "y"))


if __name__ == "__main__":
    unittest.main()
