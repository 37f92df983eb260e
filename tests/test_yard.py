"""The yard: each deed, what it tells, how it is refused, and that what is refused changes nothing."""

import unittest

from helping import NO_LISTS, NO_NUMBERS, NO_TEXTS, refusal_of, rows
from linkyard.assembling import assembled
from linkyard.images import image_bytes
from linkyard.linking import linked
from linkyard.yard import Yard

MAIN = rows("part one", "shared main", "wants twice", "code main", "ask", "call twice", "tell", "stop")
TWICE = rows("part math", "shared twice", "code twice", "dup", "add", "back")
THRICE = rows("part math", "shared twice", "code twice", "dup", "dup", "add", "add", "back")
ALONE = rows("part alone", "shared main", "code main", "small 5", "tell", "stop")
BAD_TEXTS = [(rows("part b"), ("BadRow", "b", 1)), ("nothing", ("BadRow", "", 1)), ("", ("BadRow", "", 1)),
             ("\n", ("BadRow", "", 2)), ("\n" * 600, ("BadText",)), ("part\tb", ("BadText",)),
             (rows("part b", "code c", "stop", "code c", "stop"), ("Twice", "b", 4, "c")),
             (rows("part one", "code c", "call d", "stop"), ("Lacking", "one", 3, "d")),
             (rows("part b", "code c", "go l", *["push 1"] * 50, "at l", "stop"), ("TooFar", "b", 3, "l"))]


def bytes_of(*texts):
    return image_bytes(linked([assembled(text) for text in texts]))


class Deeds(unittest.TestCase):
    def test_put_and_parts(self):
        yard = Yard()
        self.assertEqual(yard.parts(), [])
        self.assertEqual(yard.put(MAIN), "one")
        self.assertEqual(yard.put(TWICE), "math")
        for name in ["a9", "a10", "zz"]:
            self.assertEqual(yard.put(rows("part " + name, "code c", "stop")), name)
        self.assertEqual(yard.parts(), ["a10", "a9", "math", "one", "zz"])

    def test_parts_are_a_new_list_each_time(self):
        yard = Yard()
        yard.put(MAIN)
        told = yard.parts()
        told.append("more")
        told[0] = "gone"
        self.assertEqual(yard.parts(), ["one"])
        kept = yard.parts()
        yard.put(TWICE)
        self.assertEqual(kept, ["one"])

    def test_a_part_put_again_under_its_name(self):
        yard = Yard()
        yard.put(MAIN)
        yard.put(TWICE)
        self.assertEqual(yard.put(THRICE), "math")
        self.assertEqual(yard.parts(), ["math", "one"])
        yard.link()
        self.assertEqual(yard.run(0, [5]), ([15], "stop", 9))
        self.assertEqual(yard.image(), bytes_of(MAIN, THRICE))

    def test_put_that_is_refused_changes_nothing(self):
        yard = Yard()
        yard.put(MAIN)
        yard.put(TWICE)
        yard.link()
        before = yard.image()
        for text, refusal in BAD_TEXTS:
            self.assertEqual(refusal_of(yard.put, text), refusal)
        for thing in NO_TEXTS:
            self.assertEqual(refusal_of(yard.put, thing), ("BadText",), repr(thing))
        self.assertEqual(yard.parts(), ["math", "one"])
        yard.link()
        self.assertEqual(yard.image(), before)

    def test_take(self):
        yard = Yard()
        yard.put(MAIN)
        yard.put(TWICE)
        self.assertIsNone(yard.take("one"))
        self.assertEqual(yard.parts(), ["math"])
        self.assertEqual(refusal_of(yard.take, "one"), ("NoPart",))
        self.assertEqual(yard.put(MAIN), "one")
        self.assertIsNone(yard.take("math"))
        self.assertIsNone(yard.take("one"))
        self.assertEqual(yard.parts(), [])

    def test_take_of_what_is_not_there(self):
        yard = Yard()
        yard.put(MAIN)
        yard.shelve(TWICE)
        for thing in NO_TEXTS + ["", "math", "two", "One", "one ", "on", "7", "one\n", "x" * 50000, float("nan")]:
            self.assertEqual(refusal_of(yard.take, thing), ("NoPart",), repr(thing)[:40])
        self.assertEqual(yard.parts(), ["one"])
        self.assertEqual(refusal_of(Yard().take, "one"), ("NoPart",))

    def test_shelve(self):
        yard = Yard()
        self.assertIsNone(yard.shelve(TWICE))
        self.assertEqual(yard.parts(), [])
        yard.put(MAIN)
        self.assertIsNone(yard.link())
        self.assertEqual(yard.image(), bytes_of(MAIN, TWICE))
        self.assertEqual(yard.parts(), ["one"])

    def test_shelve_that_is_refused_changes_nothing(self):
        yard = Yard()
        yard.shelve(TWICE)
        self.assertEqual(refusal_of(yard.shelve, TWICE), ("Twice", "math", 1, "math"))
        self.assertEqual(refusal_of(yard.shelve, THRICE), ("Twice", "math", 1, "math"))
        for text, refusal in BAD_TEXTS:
            self.assertEqual(refusal_of(yard.shelve, text), refusal)
        for thing in NO_TEXTS:
            self.assertEqual(refusal_of(yard.shelve, thing), ("BadText",), repr(thing))
        self.assertEqual(refusal_of(yard.shelve, rows("part math", "code c", "go l")), ("Lacking", "math", 3, "l"))
        yard.put(MAIN)
        yard.link()
        self.assertEqual(yard.run(0, [5]), ([10], "stop", 7))

    def test_a_part_and_a_shelved_one_of_one_name(self):
        yard = Yard()
        yard.put(MAIN)
        yard.shelve(rows("part one", "shared other", "code other", "stop"))
        yard.shelve(TWICE)
        yard.link()
        self.assertEqual(yard.image(), bytes_of(MAIN, TWICE))
        yard.put(rows("part math", "wants twice", "shared main", "code main", "stop"))
        yard.take("one")
        self.assertEqual(refusal_of(yard.link), ("Twice", "math", 1, "math"))

    def test_two_yards_keep_apart(self):
        first, second = Yard(), Yard()
        first.put(ALONE)
        first.shelve(TWICE)
        first.link()
        self.assertEqual(second.parts(), [])
        self.assertEqual(refusal_of(second.image), ("NoMain",))
        self.assertIsNone(second.shelve(TWICE))


class Linking(unittest.TestCase):
    def test_no_parts(self):
        yard = Yard()
        self.assertEqual(refusal_of(yard.link), ("NoMain",))
        yard.shelve(ALONE)
        self.assertEqual(refusal_of(yard.link), ("NoMain",))
        yard.put(ALONE)
        yard.take("alone")
        self.assertEqual(refusal_of(yard.link), ("NoMain",))

    def test_only_what_is_wanted_comes_from_the_shelf(self):
        yard = Yard()
        yard.shelve(TWICE)
        yard.shelve(rows("part spare", "shared spare", "code spare", "stop"))
        yard.put(ALONE)
        yard.link()
        self.assertEqual(yard.image(), bytes_of(ALONE))

    def test_main_from_the_shelf_when_it_is_wanted(self):
        yard = Yard()
        yard.shelve(ALONE)
        yard.put(rows("part b", "wants main", "code c", "call main", "stop"))
        yard.link()
        self.assertEqual(yard.run(), ([5], "stop", 3))

    def test_refused_as_picked(self):
        yard = Yard()
        yard.put(MAIN)
        self.assertEqual(refusal_of(yard.link), ("Lacking", "one", 1, "twice"))
        yard.shelve(TWICE)
        yard.shelve(rows("part other", "shared twice", "code twice", "back"))
        self.assertEqual(refusal_of(yard.link), ("Twice", "one", 1, "twice"))
        yard.put(TWICE)
        self.assertIsNone(yard.link())

    def test_refused_as_linked(self):
        yard = Yard()
        yard.put(rows("part a", "code main", "stop"))
        self.assertEqual(refusal_of(yard.link), ("NoMain",))
        yard.put(ALONE)
        yard.put(ALONE.replace("part alone", "part z"))
        self.assertEqual(refusal_of(yard.link), ("Twice", "z", 1, "main"))
        yard.put(rows("part z", "code c", "tell", "take c", "stop"))
        self.assertEqual(refusal_of(yard.link), ("WrongKind", "z", 4, "c"))
        yard.put(rows("part z", "code c", "hop e", "stop", "code d", *["push 1"] * 80, "stop", "code e", "stop"))
        self.assertEqual(refusal_of(yard.link), ("TooFar", "z", 3, "e"))
        yard.take("z")
        self.assertIsNone(yard.link())

    def test_picked_ahead_of_linked(self):
        yard = Yard()
        yard.put(rows("part a", "shared main", "wants x", "code main", "stop"))
        yard.put(rows("part b", "shared main", "code main", "stop"))
        self.assertEqual(refusal_of(yard.link), ("Lacking", "a", 1, "x"))

    def test_40_parts_and_41(self):
        yard = Yard()
        for number in range(39):
            yard.put(rows("part p%02d" % number, "code c", "stop"))
        yard.put(ALONE)
        self.assertEqual(len(yard.parts()), 40)
        self.assertIsNone(yard.link())
        before = yard.image()
        self.assertEqual(before, bytes_of(ALONE, *[rows("part p%02d" % number, "code c", "stop") for number in range(39)]))
        yard.put(rows("part q", "wants nothing", "code c", "take c", "stop"))
        self.assertEqual(refusal_of(yard.link), ("TooGreat",))
        self.assertEqual(yard.image(), before)
        yard.take("alone")
        self.assertEqual(refusal_of(yard.link), ("Lacking", "q", 1, "nothing"))
        yard.shelve(rows("part s", "shared nothing", "code nothing", "stop"))
        self.assertEqual(refusal_of(yard.link), ("TooGreat",))

    def test_more_than_8000_bytes(self):
        yard = Yard()
        full = [row for number in range(6) for row in ["code c%d" % number, *["push 1"] * 83, "stop"]]
        for number in range(6):
            yard.put(rows("part p%d" % number, *full))
        yard.put(ALONE)
        self.assertEqual(refusal_of(yard.link), ("TooGreat",))


class WhatWasLinkedLast(unittest.TestCase):
    def test_nothing_was_linked(self):
        yard = Yard()
        yard.put(ALONE)
        self.assertEqual(refusal_of(yard.image), ("NoMain",))
        self.assertEqual(refusal_of(yard.run), ("NoMain",))
        yard.put(MAIN)
        self.assertEqual(refusal_of(yard.link), ("Lacking", "one", 1, "twice"))
        self.assertEqual(refusal_of(yard.image), ("NoMain",))
        for things in [(True,), (-1, "no list", None), (0, [True]), (0, None, -1), (65536,)]:
            self.assertEqual(refusal_of(yard.run, *things), ("NoMain",))

    def test_behind_later_deeds(self):
        yard = Yard()
        yard.put(MAIN)
        yard.shelve(TWICE)
        yard.link()
        image, told = yard.image(), yard.run(0, [4])
        self.assertEqual((image, told), (bytes_of(MAIN, TWICE), ([8], "stop", 7)))
        yard.put(THRICE)
        yard.take("one")
        self.assertEqual((yard.image(), yard.run(0, [4])), (image, told))
        self.assertEqual(refusal_of(yard.link), ("NoMain",))
        self.assertEqual((yard.image(), yard.run(0, [4])), (image, told))
        yard.take("math")
        self.assertEqual(refusal_of(yard.link), ("NoMain",))
        self.assertEqual((yard.image(), yard.run(0, [4])), (image, told))
        yard.put(ALONE)
        yard.link()
        self.assertEqual((yard.image(), yard.run()), (bytes_of(ALONE), ([5], "stop", 3)))

    def test_told_lists_are_new(self):
        yard = Yard()
        yard.put(ALONE)
        yard.link()
        image, told = yard.image(), yard.run()
        image[0] = 77
        image.append(1)
        told[0].append(9)
        self.assertEqual((yard.image(), yard.run()), (bytes_of(ALONE), ([5], "stop", 3)))

    def test_run(self):
        yard = Yard()
        yard.put(rows("part a", "shared main", "code main", "at l", "ask", "tell", "go l"))
        yard.link()
        self.assertEqual(yard.run(), ([], "none", 1))
        self.assertEqual(yard.run(base=65536 - 4, inputs=[1, 2]), ([1, 2], "none", 7))
        self.assertEqual(yard.run(0, [1, 2], 4), ([1], "dry", 4))
        self.assertEqual(yard.run(0, list(range(100)), 5000), (list(range(100)), "none", 301))
        self.assertEqual(yard.run(most=0), ([], "dry", 0))

    def test_most_that_is_left_out(self):
        yard = Yard()
        yard.put(rows("part a", "shared main", "code main", "at l", "go l"))
        yard.link()
        self.assertEqual(yard.run(), ([], "dry", 1000))

    def test_a_run_changes_nothing(self):
        yard = Yard()
        yard.put(rows("part a", "shared main", "code main", "small 0", "take d", "tell", "small 0", "ask", "put d", "stop",
                      "data d", "word 7"))
        yard.link()
        before = yard.image()
        inputs = [9]
        self.assertEqual(yard.run(0, inputs), ([7], "stop", 7))
        self.assertEqual(yard.run(500, inputs), ([7], "stop", 7))
        self.assertEqual((yard.image(), inputs), (before, [9]))

    def test_bases_and_inputs(self):
        yard = Yard()
        yard.put(ALONE)
        yard.link()
        for base in NO_NUMBERS + [-1, 65536 - 3, 65536]:
            self.assertEqual(refusal_of(yard.run, base), ("BadBase",), repr(base))
            self.assertEqual(refusal_of(yard.run, base, "no list", -1), ("BadBase",), repr(base))
        for inputs in NO_LISTS + [[True], [65536], [-1], [None], [7] * 101]:
            self.assertEqual(refusal_of(yard.run, 0, inputs), ("BadInput",), repr(inputs)[:40])
        for most in NO_NUMBERS + [-1, 5001]:
            self.assertEqual(refusal_of(yard.run, 0, None, most), ("BadInput",), repr(most))


if __name__ == "__main__":
    unittest.main()
