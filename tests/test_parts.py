"""Parts: fields, shared names, and the numbers of sections."""

import unittest

from helping import fields_of
from linkyard.parts import Part


def lists():
    sections = [("code", "main", True, [80, 0, 0, 33]), ("data", "tab", False, [0, 1, 0, 7]),
                ("code", "aid", True, [32])]
    return sections, ["other", "more"], [(0, 1, "far", "other", 6)]


class Parts(unittest.TestCase):
    def test_fields(self):
        sections, wants, places = lists()
        part = Part("one", sections, wants, places)
        self.assertEqual(fields_of(part), ("one",) + lists())
        for field in [part.sections, part.wants, part.places]:
            self.assertIs(type(field), list)
        for item in part.sections + part.places:
            self.assertIs(type(item), tuple)

    def test_copies_of_all_lists_and_of_those_within(self):
        sections, wants, places = lists()
        part = Part("one", sections, wants, places)
        sections[0][3][0] = 99
        sections[1][3].append(5)
        del sections[2][3][:]
        sections.append(("data", "late", True, [0, 1, 0, 0]))
        sections[0] = ("data", "gone", False, [])
        wants.append("late")
        wants[0] = "gone"
        places.append((0, 9, "near", "late", 9))
        places[0] = (0, 0, "", "", 0)
        self.assertEqual(fields_of(part), ("one",) + lists())
        self.assertEqual(part.names(), ["aid", "main"])

    def test_what_is_handed_in_stays(self):
        sections, wants, places = lists()
        Part("one", sections, wants, places).names()
        self.assertEqual((sections, wants, places), lists())

    def test_of_other_tuples(self):
        empty = Part("none", [], [], [])
        self.assertEqual(fields_of(empty), ("none", [], [], []))
        self.assertEqual((empty.names(), empty.place_of("none")), ([], None))
        odd = Part("odd", [("data", "x", True, [])], ["x", "x"], [(7, 700, "near", "y", 601)])
        self.assertEqual(fields_of(odd), ("odd", [("data", "x", True, [])], ["x", "x"], [(7, 700, "near", "y", 601)]))

    def test_names_rising_and_a_new_list_each_time(self):
        names = ["b", "a10", "zz", "a9", "a", "main", "ab"]
        part = Part("one", [("code", name, name != "zz", [33]) for name in names], [], [])
        self.assertEqual(part.names(), ["a", "a10", "a9", "ab", "b", "main"])
        told = part.names()
        told.append("more")
        told[0] = "gone"
        self.assertEqual(part.names(), ["a", "a10", "a9", "ab", "b", "main"])
        self.assertEqual(Part("one", [("code", "a", False, [33])], [], []).names(), [])

    def test_place_of(self):
        part = Part("one", *lists())
        self.assertEqual([part.place_of(name) for name in ["main", "tab", "aid"]], [0, 1, 2])
        for name in ["other", "more", "one", "none", "", "mai", "main "]:
            self.assertIsNone(part.place_of(name), name)

    def test_two_parts_keep_apart(self):
        first = Part("one", *lists())
        second = Part("two", [], [], [])
        self.assertEqual(fields_of(first), ("one",) + lists())
        self.assertEqual(second.names(), [])


if __name__ == "__main__":
    unittest.main()
