"""Shelves, and the parts of shelves that others want."""

import itertools
import unittest

from helping import NO_LISTS, fields_of, refusal_of, rows
from linkyard.assembling import assembled
from linkyard.checks import sealed
from linkyard.partbytes import part_bytes
from linkyard.shelves import Shelf, picked


def part(name, shared="", wants="", words=1):
    """A part that shares and wants the names in these texts."""
    shared, wants = shared.split(), wants.split()
    sections = [row for own in shared for row in ["code " + own, "stop"]]
    return assembled(rows("part " + name, *["shared " + own for own in shared], *["wants " + own for own in wants],
                          *sections, "data own", *["word 7"] * words))


def shelf(*parts):
    made = Shelf()
    for one in parts:
        made.put(part_bytes(one))
    return made


def names(parts):
    return [one.name for one in parts]


class Shelves(unittest.TestCase):
    def test_put_and_names(self):
        made = Shelf()
        self.assertEqual(made.names(), [])
        self.assertIsNone(made.put(part_bytes(part("b", "x"))))
        self.assertEqual(made.names(), ["b"])
        for name in ["a10", "zz", "a9", "a"]:
            self.assertIsNone(made.put(part_bytes(part(name))))
        self.assertEqual(made.names(), ["a", "a10", "a9", "b", "zz"])

    def test_names_are_a_new_list_each_time(self):
        made = shelf(part("b"), part("a"))
        told = made.names()
        told.append("c")
        told[0] = "z"
        self.assertEqual(made.names(), ["a", "b"])

    def test_sharing(self):
        made = shelf(part("d", "x y"), part("b", "y z"), part("a", "x y"), part("c", "z"))
        self.assertEqual(names(made.sharing("x")), ["a", "d"])
        self.assertEqual(names(made.sharing("y")), ["a", "b", "d"])
        self.assertEqual(names(made.sharing("z")), ["b", "c"])
        for name in ["own", "a", "w", "", "xy"]:
            self.assertEqual(made.sharing(name), [])
        told = made.sharing("x")
        told.append(part("e", "x"))
        told.reverse()
        self.assertEqual(names(made.sharing("x")), ["a", "d"])

    def test_the_parts_are_those_that_were_put(self):
        one = part("one", "x y", "w v", words=3)
        made = shelf(one)
        self.assertEqual([fields_of(told) for told in made.sharing("x")], [fields_of(one)])

    def test_the_row_is_not_kept(self):
        row = part_bytes(part("one", "x"))
        before = list(row)
        made = Shelf()
        made.put(row)
        self.assertEqual(row, before)
        for place in range(len(row)):
            row[place] = 0
        del row[5:]
        self.assertEqual(made.names(), ["one"])
        self.assertEqual(fields_of(made.sharing("x")[0]), fields_of(part("one", "x")))

    def test_two_shelves_keep_apart(self):
        first, second = shelf(part("a", "x")), Shelf()
        self.assertEqual((first.names(), second.names(), second.sharing("x")), (["a"], [], []))

    def test_a_name_that_is_there(self):
        made = shelf(part("a", "x"), part("b"))
        self.assertEqual(refusal_of(made.put, part_bytes(part("a", "x"))), ("Twice", "a", 1, "a"))
        self.assertEqual(refusal_of(made.put, part_bytes(part("b", "x y"))), ("Twice", "b", 1, "b"))
        self.assertEqual(made.names(), ["a", "b"])
        self.assertEqual(names(made.sharing("x")), ["a"])
        self.assertEqual(made.sharing("y"), [])

    def test_spoilt_bytes(self):
        made = shelf(part("a", "x"))
        good = part_bytes(part("b", "x"))
        for row, word in [(good[:-1], "BadCheck"), ([0] + good[1:], "BadCheck"), (good + [1], "BadCheck"),
                          (good[:-2], "BadCheck"), (good + [0], "BadBytes"), ([], "BadBytes"), ([7], "BadBytes"), (good[:-1] + [True], "BadBytes"),
                          (sealed(good), "BadBytes"), (sealed(good[:-3]), "BadBytes"), (sealed([]), "BadBytes")]:
            self.assertEqual(refusal_of(made.put, row), (word,), row[:5])
        for thing in NO_LISTS + [None]:
            self.assertEqual(refusal_of(made.put, thing), ("BadBytes",))
        spoilt = part_bytes(part("a", "x"))
        spoilt[-1] ^= 1
        self.assertEqual(refusal_of(made.put, spoilt), ("BadCheck",))
        self.assertEqual(made.names(), ["a"])
        self.assertEqual(names(made.sharing("x")), ["a"])


class Picked(unittest.TestCase):
    def pick(self, parts, shelves, expected):
        before, fields = list(parts), [fields_of(one) for one in parts]
        on_shelves = [one.names() for one in shelves]
        kept = list(shelves)
        told = picked(parts, shelves)
        self.assertEqual(names(told), expected)
        self.assertIs(type(told), list)
        self.assertEqual(parts, before)
        self.assertEqual([fields_of(one) for one in parts], fields)
        self.assertEqual(shelves, kept)
        self.assertEqual([one.names() for one in shelves], on_shelves)
        told.append(None)
        self.assertEqual(parts, before)
        return told[:-1]

    def refuse(self, expected, parts, shelves):
        before, on_shelves = list(parts), [one.names() for one in shelves]
        for order in itertools.islice(itertools.permutations(parts), 24):
            self.assertEqual(refusal_of(picked, list(order), shelves), expected)
        for order in itertools.permutations(shelves):
            self.assertEqual(refusal_of(picked, parts, list(order)), expected)
        self.assertEqual((parts, [one.names() for one in shelves]), (before, on_shelves))

    def test_nothing_wanted(self):
        self.pick([part("a")], [], ["a"])
        self.pick([part("a")], [shelf(part("b", "x"))], ["a"])
        self.pick([part("c"), part("a", "x"), part("b")], [shelf(part("d", "x"))], ["a", "b", "c"])
        self.pick([part("b"), part("a10"), part("a9"), part("z"), part("a")], [], ["a", "a10", "a9", "b", "z"])

    def test_met_by_a_handed_part(self):
        self.pick([part("b", "", "x"), part("a", "x")], [shelf(part("c", "x"))], ["a", "b"])
        self.pick([part("b", "", "x"), part("a", "x")], [shelf(part("a", "x"), part("c", "x"))], ["a", "b"])

    def test_met_by_one_shelf_of_several(self):
        shelves = [shelf(part("s", "y")), shelf(part("t", "x"), part("u", "z")), shelf()]
        told = self.pick([part("m", "", "x")], shelves, ["m", "t"])
        self.assertEqual(fields_of(told[1]), fields_of(part("t", "x")))
        self.pick([part("m", "", "x y z")], shelves, ["m", "s", "t", "u"])

    def test_handed_parts_are_told_as_they_are(self):
        one = part("m", "main", "x", words=5)
        told = self.pick([one], [shelf(part("t", "x"))], ["m", "t"])
        self.assertEqual(fields_of(told[0]), fields_of(one))

    def test_chains_and_rings(self):
        chain = shelf(part("c", "x", "y"), part("b", "y", "z"), part("a", "z"), part("d", "w"))
        self.pick([part("m", "", "x")], [chain], ["a", "b", "c", "m"])
        ring = shelf(part("c", "x", "y"), part("b", "y", "z"), part("a", "z", "x main"))
        self.pick([part("m", "main", "x")], [ring], ["a", "b", "c", "m"])
        split = [shelf(part("c", "x", "y")), shelf(part("b", "y", "z")), shelf(part("a", "z", "x"))]
        self.pick([part("m", "", "x")], split, ["a", "b", "c", "m"])

    def test_one_part_that_shares_several(self):
        self.pick([part("m", "", "x y"), part("n", "", "z y")], [shelf(part("s", "x y z"), part("t", "w"))],
                  ["m", "n", "s"])

    def test_just_those_that_something_wants(self):
        both = shelf(part("s", "a z"), part("t", "b"))
        self.pick([part("m", "", "a b z")], [both], ["m", "s", "t"])
        # The least name is looked for first: s, taken for a, shares z as well, so t is not taken for it.
        least = [shelf(part("s", "a", "z"), part("t", "z"))]
        self.pick([part("m", "", "a")], least, ["m", "s", "t"])

    def test_several_share_what_is_met_by_then(self):
        # b comes with the part that is taken for a; that another one shares b doesn't matter any more.
        self.pick([part("m", "", "a b")], [shelf(part("s", "a b"), part("t", "b"))], ["m", "s"])
        self.refuse(("Twice", "m", 1, "a"), [part("m", "", "a b")], [shelf(part("s", "a b"), part("t", "a"))])

    def test_two_handed_parts_may_share_a_name(self):
        self.pick([part("b", "x"), part("a", "x"), part("c", "", "x")], [], ["a", "b", "c"])

    def test_a_taken_part_may_share_what_another_shares(self):
        self.pick([part("a", "x", "y")], [shelf(part("b", "x y"))], ["a", "b"])

    def test_two_handed_parts_of_one_name(self):
        self.refuse(("Twice", "a", 1, "a"), [part("a"), part("a")], [])
        self.refuse(("Twice", "b", 1, "b"), [part("c"), part("b"), part("a"), part("c"), part("b")], [])
        one = part("a")
        self.refuse(("Twice", "a", 1, "a"), [one, one], [])
        self.refuse(("Twice", "z", 1, "z"), [part("z", "", "a"), part("z")], [shelf()])

    def test_lacking(self):
        self.refuse(("Lacking", "m", 1, "x"), [part("m", "", "x")], [])
        self.refuse(("Lacking", "m", 1, "x"), [part("m", "", "x")], [shelf(), shelf(part("s", "y"))])
        self.refuse(("Lacking", "c", 1, "w"), [part("m", "", "z w"), part("c", "", "x w")], [shelf()])
        self.refuse(("Lacking", "c", 1, "x"), [part("d", "", "x"), part("c", "", "x")], [shelf()])
        self.refuse(("Lacking", "m", 1, "own"), [assembled(rows("part m", "wants own", "code c", "stop"))],
                    [shelf(part("s", "x"))])

    def test_lacking_behind_a_taking(self):
        self.refuse(("Lacking", "s", 1, "y"), [part("m", "", "x")], [shelf(part("s", "x", "y"))])
        self.refuse(("Lacking", "a", 1, "y"), [part("m", "", "x y")], [shelf(part("a", "x", "y"))])

    def test_several_share_it(self):
        self.refuse(("Twice", "m", 1, "x"), [part("m", "", "x")], [shelf(part("s", "x"), part("t", "x"))])
        self.refuse(("Twice", "m", 1, "x"), [part("m", "", "x")], [shelf(part("s", "x")), shelf(part("t", "x"))])
        self.refuse(("Twice", "m", 1, "x"), [part("m", "", "x")], [shelf(part("s", "x")), shelf(part("s", "x"))])
        self.refuse(("Twice", "b", 1, "x"), [part("m", "", "x"), part("b", "", "x")],
                    [shelf(part("s", "x")), shelf(part("m", "x"))])

    def test_a_part_of_that_name_is_there(self):
        self.refuse(("Twice", "m", 1, "m"), [part("m", "", "x")], [shelf(part("m", "x"))])
        self.refuse(("Twice", "s", 1, "s"), [part("m", "", "x y")], [shelf(part("s", "x")), shelf(part("s", "y"))])

    def test_the_least_name_first(self):
        two = [shelf(part("s", "a"), part("t", "a"))]
        self.refuse(("Twice", "m", 1, "a"), [part("m", "", "a b")], two)
        self.refuse(("Lacking", "m", 1, "b"), [part("m", "", "c b")], [shelf(part("s", "c"), part("t", "c"))])
        self.refuse(("Lacking", "m", 1, "a10"), [part("m", "", "a9 a10 b")], [shelf()])

    def test_40_parts_and_a_forty_first(self):
        chain = [part("s%02d" % number, "x%02d" % number, "x%02d" % (number + 1)) for number in range(38)]
        last = part("s38", "x38")
        self.pick([part("m", "", "x00")], [shelf(*chain, last)], ["m"] + ["s%02d" % number for number in range(39)])
        more = [part("s38", "x38", "x39"), part("s39", "x39")]
        self.refuse(("TooGreat",), [part("m", "", "x00")], [shelf(*chain, *more)])
        handed = [part("h%02d" % number, "", "x") for number in range(40)]
        self.assertEqual(refusal_of(picked, handed, [shelf(part("s", "x"))]), ("TooGreat",))
        self.assertEqual(refusal_of(picked, handed, [shelf(part("h07", "x"))]), ("Twice", "h07", 1, "h07"))
        self.assertEqual(refusal_of(picked, handed, [shelf()]), ("Lacking", "h00", 1, "x"))
        self.assertEqual(refusal_of(picked, handed, [shelf(part("s", "x"), part("t", "x"))]), ("Twice", "h00", 1, "x"))
        self.assertEqual(len(picked(handed[1:], [shelf(part("s", "x"))])), 40)
        self.assertEqual(len(picked([part("h%02d" % number) for number in range(40)], [shelf(part("s", "x"))])), 40)


if __name__ == "__main__":
    unittest.main()
