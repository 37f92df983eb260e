"""Where sections are laid, and images reckoned by hand."""

import itertools
import unittest

from helping import image_fields, refusal_of, rows
from linkyard.assembling import assembled
from linkyard.layout import Image, laid, shared_of
from linkyard.linking import linked
from linkyard.partbytes import part_bytes, part_in
from linkyard.parts import Part

TEXT_A = rows("part a", "shared one", "wants two", "data tab", "word 1", "word 2", "code one", "take tab", "hop two",
              "tell", "back")
TEXT_B = rows("part b", "shared main", "shared two", "wants one", "wants far", "wants tab", "code main", "call one",
              "put tab", "stop", "code two", "hop main", "hop far", "stop")
TEXT_C = rows("part c", "shared far", "shared tab", "code far", "stop", "data tab", "word 513")


def parts():
    return [assembled(text) for text in [TEXT_A, TEXT_B, TEXT_C]]


LAID = [("a", "one", "code", 0, 7), ("b", "main", "code", 7, 7), ("b", "two", "code", 14, 5), ("c", "far", "code", 19, 1),
        ("a", "tab", "data", 20, 6), ("c", "tab", "data", 26, 4)]
IMAGE = (7, [("code", 7), ("code", 7), ("code", 5), ("code", 1), ("data", 6), ("data", 4)],
         [81, 0, 20, 66, 9, 31, 32, 80, 0, 0, 82, 0, 26, 33, 66, 247, 66, 1, 33, 33,
          0, 2, 0, 1, 0, 2, 0, 1, 2, 1], [1, 8, 11])


class Layout(unittest.TestCase):
    def test_laid_in_every_order_of_the_parts(self):
        for order in itertools.permutations(parts()):
            handed = list(order)
            self.assertEqual(laid(handed), LAID)
            self.assertEqual(handed, list(order))

    def test_laid_of_one_and_of_none(self):
        one = assembled(rows("part z", "data d", "word 1", "code c", "stop", "data b", "word 1", "code a", "back"))
        self.assertEqual(laid([one]), [("z", "c", "code", 0, 1), ("z", "a", "code", 1, 1), ("z", "d", "data", 2, 4),
                                       ("z", "b", "data", 6, 4)])
        self.assertEqual(laid([]), [])

    def test_laid_by_names_as_texts(self):
        named = [assembled(rows("part " + name, "code c", "stop")) for name in ["b", "a10", "a9", "a", "zz", "z"]]
        self.assertEqual([section[0] for section in laid(named)], ["a", "a10", "a9", "b", "z", "zz"])

    def test_laid_is_a_new_list_of_tuples(self):
        handed = parts()
        told = laid(handed)
        self.assertEqual({type(section) for section in told}, {tuple})
        told.reverse()
        told.append(None)
        self.assertEqual(laid(handed), LAID)

    def test_shared_of(self):
        expected = {"one": ("a", "one"), "main": ("b", "main"), "two": ("b", "two"), "far": ("c", "far"),
                    "tab": ("c", "tab")}
        for order in itertools.permutations(parts()):
            self.assertEqual(shared_of(list(order)), expected)
        self.assertEqual(shared_of([]), {})
        self.assertEqual(shared_of([assembled(rows("part a", "code c", "stop"))]), {})
        handed = parts()
        told = shared_of(handed)
        told["more"] = told.pop("main")
        self.assertEqual(shared_of(handed), expected)

    def test_an_image_keeps_copies(self):
        main, sections, body, far = IMAGE
        sections, body, far = list(sections), list(body), list(far)
        image = Image(main, sections, body, far)
        self.assertEqual(image_fields(image), IMAGE)
        sections[0] = ("data", 99)
        sections.append(("code", 1))
        body[0] = 99
        body.append(1)
        far[0] = 99
        far.append(1)
        self.assertEqual(image_fields(image), IMAGE)
        for field in [image.sections, image.body, image.far]:
            self.assertIs(type(field), list)


class Images(unittest.TestCase):
    def test_by_hand_in_every_order_of_the_parts(self):
        for order in itertools.permutations(parts()):
            handed = list(order)
            image = linked(handed)
            self.assertEqual(image_fields(image), IMAGE)
            self.assertEqual({type(section) for section in image.sections}, {tuple})
            self.assertEqual(handed, list(order))

    def test_parts_read_from_bytes(self):
        self.assertEqual(image_fields(linked([part_in(part_bytes(part)) for part in parts()])), IMAGE)

    def test_parts_that_are_handed_in_stay(self):
        handed = parts()
        before = [part_bytes(part) for part in handed]
        image = linked(handed)
        self.assertEqual([part_bytes(part) for part in handed], before)
        image.body[0] = 99
        image.body.append(1)
        image.far.append(1)
        image.sections.append(("code", 1))
        self.assertEqual([part_bytes(part) for part in handed], before)
        self.assertEqual(image_fields(linked(handed)), IMAGE)

    def test_one_part(self):
        self.assertEqual(image_fields(linked([assembled(rows("part a", "shared main", "code main", "stop"))])),
                         (0, [("code", 1)], [33], []))
        text = rows("part a", "shared main", "data d", "word 5", "code c", "back", "code main", "call c", "take d",
                    "hop main", "stop")
        self.assertEqual(image_fields(linked([assembled(text)])),
                         (1, [("code", 1), ("code", 9), ("data", 4)],
                          [32, 80, 0, 0, 81, 0, 10, 66, 248, 33, 0, 1, 0, 5], [2, 5]))

    def test_sections_called_alike_in_several_parts(self):
        one = assembled(rows("part a", "shared main", "wants far", "code main", "call own", "call far", "stop", "code own",
                             "back"))
        two = assembled(rows("part b", "shared far", "code own", "stop", "code far", "call own", "back", "code main",
                             "stop"))
        self.assertEqual(image_fields(linked([two, one])),
                         (0, [("code", 7), ("code", 1), ("code", 1), ("code", 4), ("code", 1)],
                          [80, 0, 7, 80, 0, 9, 33, 32, 33, 80, 0, 8, 32, 33], [1, 4, 10]))

    def test_an_unshared_main_in_another_part(self):
        one = assembled(rows("part a", "code main", "tell", "stop"))
        two = assembled(rows("part b", "shared main", "code main", "stop"))
        three = assembled(rows("part c", "data main", "word 1"))
        self.assertEqual(image_fields(linked([one, two, three]))[0], 2)
        self.assertEqual(refusal_of(linked, [one, three]), ("NoMain",))

    def test_far_places_by_two_bytes(self):
        texts = rows("part a", *full_codes(6)), rows("part b", *full_codes(3))
        last = rows("part c", "shared main", "code main", "call c", "take d", "stop", "code c", "back", "data d", "word 1")
        body = linked([assembled(text) for text in texts + (last,)]).body
        self.assertEqual(body[2250:2258], [80, 8, 209, 81, 8, 210, 33, 32])

    def test_40_parts(self):
        many = [rows("part p%02d" % number, "shared s%02d" % number, "wants s%02d" % ((number + 1) % 40),
                     "code s%02d" % number, "call s%02d" % ((number + 1) % 40), "back") for number in range(39)]
        many.append(rows("part p39", "shared s39", "shared main", "wants s00", "code main", "hop s39", "stop", "code s39",
                         "call s00", "back"))
        image = linked([assembled(text) for text in reversed(many)])
        expected = []
        for number in range(38):
            expected += [80, 0, 4 * (number + 1), 32]
        expected += [80, 0, 159, 32, 66, 1, 33, 80, 0, 0, 32]
        self.assertEqual(image.main, 156)
        self.assertEqual(image.body, expected)
        self.assertEqual(image.far, [4 * number + 1 for number in range(39)] + [160])


def full_codes(count):
    """Rows of so many codes of 250 bytes each."""
    return [row for number in range(count) for row in ["code c%d" % number, *["push 1"] * 83, "stop"]]


def gap(size):
    return ["push 1"] * (size // 3) + ["add"] * (size % 3)


class Hops(unittest.TestCase):
    def test_just_127_ahead_and_one_more(self):
        for size, expected in [(126, None), (127, ("TooFar", "a", 5, "goal"))]:
            text = rows("part a", "shared main", "code main", "tell", "hop goal", "stop", "code between",
                        *gap(size - 1), "stop", "code goal", "stop")
            self.assertEqual(refusal_of(linked, [assembled(text)]), expected)
            if expected is None:
                self.assertEqual(linked([assembled(text)]).body[:4], [31, 66, 127, 33])

    def test_just_128_back_and_one_more(self):
        for size, expected in [(125, None), (126, ("TooFar", "a", 51, "main"))]:
            text = rows("part a", "shared main", "code main", "stop", "code between", *gap(size - 1), "stop", "code c",
                        "hop main", "stop")
            self.assertEqual(refusal_of(linked, [assembled(text)]), expected)
            if expected is None:
                self.assertEqual(linked([assembled(text)]).body[126:], [66, 128, 33])

    def test_what_a_hop_reaches_hangs_on_what_lies_between(self):
        first = assembled(rows("part a", "shared main", "wants goal", "code main", "hop goal", "stop"))
        last = assembled(rows("part z", "shared goal", "code goal", "stop"))
        between = assembled(rows("part m", "code c", *gap(125), "stop"))
        more = assembled(rows("part n", "code c", "stop"))
        self.assertEqual(linked([first, last]).body, [66, 1, 33, 33])
        self.assertEqual(linked([first, between, last]).body[1], 127)
        self.assertEqual(refusal_of(linked, [more, last, between, first]), ("TooFar", "a", 5, "goal"))

    def test_to_itself_and_to_the_next(self):
        text = rows("part a", "shared main", "code main", "hop main", "back", "code c", "hop c", "stop")
        self.assertEqual(linked([assembled(text)]).body, [66, 254, 32, 66, 254, 33])
        text = rows("part a", "shared main", "code main", "stop", "code c", "add", "hop main", "stop")
        self.assertEqual(linked([assembled(text)]).body, [33, 16, 66, 252, 33])


def simple(name, shared="", wants="", data="", ops=()):
    """A part with a code for each shared name, and in a code own the operations that are told."""
    shared, wants, data = shared.split(), wants.split(), data.split()
    sections = [row for own in shared if own not in data for row in ["code " + own, "stop"]]
    words = [row for own in data for row in ["data " + own, "word 1"]]
    return assembled(rows("part " + name, *["shared " + own for own in shared], *["wants " + own for own in wants],
                          *sections, *words, "code own", *ops, "stop"))


class Refusals(unittest.TestCase):
    def refuse(self, expected, *handed):
        for order in itertools.islice(itertools.permutations(handed), 24):
            self.assertEqual(refusal_of(linked, list(order)), expected)

    def test_two_parts_of_one_name(self):
        self.refuse(("Twice", "a", 1, "a"), simple("a", "main"), simple("a"))
        self.refuse(("Twice", "b", 1, "b"), simple("a", "main"), simple("c"), simple("b"), simple("c"), simple("b"))

    def test_two_parts_share_a_name(self):
        self.refuse(("Twice", "c", 1, "x"), simple("a", "main x"), simple("c", "x"))
        self.refuse(("Twice", "d", 1, "x"), simple("a", "main x"), simple("d", "x"), simple("c", "x"))
        self.refuse(("Twice", "b", 1, "main"), simple("a", "main"), simple("b", "main"))
        self.refuse(("Twice", "b", 1, "x"), simple("a", "main x y z"), simple("b", "x z"), simple("c", "y"))
        self.refuse(("Twice", "b", 1, "x"), simple("a", "main x", data="x"), simple("b", "x"))

    def test_wanted_names_that_none_shares(self):
        self.refuse(("Lacking", "a", 1, "x"), simple("a", "main", "x"))
        self.refuse(("Lacking", "b", 1, "w"), simple("a", "main", "x"), simple("c", "", "w"), simple("b", "", "z w"))
        self.refuse(("Lacking", "b", 1, "x"), simple("c", "main", "x"), simple("b", "", "x"))
        hidden = assembled(rows("part c", "code x", "stop"))
        self.refuse(("Lacking", "a", 1, "x"), simple("a", "main", "x"), hidden)

    def test_no_main(self):
        self.refuse(("NoMain",), simple("a"))
        self.refuse(("NoMain",), simple("a", "x"), simple("b", "y", "x"))
        self.refuse(("NoMain",), simple("a", "main", data="main"))
        self.refuse(("NoMain",), assembled(rows("part main", "code main", "stop")))
        self.refuse(("NoMain",), assembled(rows("part a", "code main", "stop")),
                    assembled(rows("part b", "shared main", "data main", "word 1")))

    def test_wrong_kinds(self):
        for word, goal in [("hop", "d"), ("call", "d"), ("take", "main"), ("put", "main"), ("take", "own"),
                           ("put", "own")]:
            one = simple("a", "main", data="d", ops=["tell", word + " " + goal])
            row = 5 + 2 + 2
            self.refuse(("WrongKind", "a", row, goal), one)
        for word, goal in [("hop", "d"), ("call", "d"), ("take", "c"), ("put", "c")]:
            one = simple("a", "main", goal, ops=[word + " " + goal])
            two = simple("b", "c d", data="d")
            self.refuse(("WrongKind", "a", 7, goal), one, two)
        for word, goal in [("hop", "c"), ("call", "c"), ("take", "d"), ("put", "d")]:
            one = simple("a", "main", goal, ops=[word + " " + goal])
            two = simple("b", "c d", data="d")
            self.refuse(None, one, two)

    def test_wrong_kinds_part_by_part_and_place_by_place(self):
        one = simple("a", "main", ops=["call own", "take own", "put main"])
        two = simple("b", "x", ops=["put own"])
        self.refuse(("WrongKind", "a", 7, "own"), one, two)
        self.refuse(("WrongKind", "b", 6, "own"), two, simple("c", "main", ops=["take own"]))

    def test_wrong_kind_and_too_far_in_the_order_of_places(self):
        far = ["push 1"] * 60 + ["stop"]
        ahead = rows("part a", "shared main", "code main", "hop z", "take main", "stop", "code c", *far, "code z", "stop")
        self.refuse(("TooFar", "a", 4, "z"), assembled(ahead))
        behind = rows("part a", "shared main", "code main", "take main", "hop z", "stop", "code c", *far, "code z", "stop")
        self.refuse(("WrongKind", "a", 4, "main"), assembled(behind))
        data = rows("part a", "shared main", "code main", "hop d", "stop", "code c", *far, "data d", "word 1")
        self.refuse(("WrongKind", "a", 4, "d"), assembled(data))
        one = assembled(rows("part a", "shared main", "code main", "hop z", "stop", "code c", *far, "code z", "stop"))
        self.refuse(("TooFar", "a", 4, "z"), one, simple("b", "x", ops=["put own"]))
        two = assembled(rows("part b", "shared main", "code main", "hop z", "stop", "code c", *far, "code z", "stop"))
        self.refuse(("WrongKind", "a", 6, "own"), two, simple("a", "x", ops=["put own"]))

    def test_the_order_of_all(self):
        same = [simple("b", "x"), simple("b", "x")]
        self.refuse(("Twice", "b", 1, "b"), *same, simple("a", "x", "y"))
        self.refuse(("Twice", "c", 1, "x"), simple("b", "x"), simple("c", "x"), simple("a", "", "a"))
        self.refuse(("Lacking", "a", 1, "y"), simple("a", "x", "y", ops=["take own"]))
        self.refuse(("NoMain",), simple("a", "x", ops=["take own"]))

    def test_8000_bytes_and_8001(self):
        many = [assembled(rows("part p%02d" % number, *full_codes(2))) for number in range(15)]
        for adds, expected in [(73, None), (74, None), (75, ("TooGreat",)), (76, ("TooGreat",))]:
            last = assembled(rows("part q", "shared main", "code main", *["push 1"] * 83, "stop", "code c", "call main",
                                  "take d", *["push 1"] * 55, *["add"] * adds, "back", "data d", "word 1"))
            self.assertEqual(sum([section[4] for section in laid(many + [last])]), 7926 + adds)
            self.assertEqual(refusal_of(linked, many + [last]), expected, adds)

    def test_too_great_behind_all_else(self):
        many = [assembled(rows("part p%02d" % number, *full_codes(2))) for number in range(17)]
        self.assertEqual(refusal_of(linked, many), ("NoMain",))
        self.assertEqual(refusal_of(linked, many + [simple("q", "main")]), ("TooGreat",))
        self.assertEqual(refusal_of(linked, many + [simple("q", "main", ops=["take own"])]), ("WrongKind", "q", 6, "own"))
        self.assertEqual(refusal_of(linked, many + [simple("q", "main", "c0")]), ("Lacking", "q", 1, "c0"))
        self.assertEqual(refusal_of(linked, many + [assembled(rows("part q", "shared main", "wants goal", "code main",
                                                                   "hop goal", "stop")),
                                                    simple("a", "goal")]), ("TooFar", "q", 5, "goal"))

    def test_far_more_bytes_than_a_word_tells(self):
        full = [("code", "c%d" % number, False, [49, 0, 1] * 83 + [33]) for number in range(100)]
        many = [Part("p%02d" % number, full, [], []) for number in range(10)]
        last = assembled(rows("part z", "shared main", "code main", "call main", "stop"))
        self.assertEqual(refusal_of(linked, many + [last]), ("TooGreat",))


if __name__ == "__main__":
    unittest.main()
