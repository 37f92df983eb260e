"""Parts as bytes: written by hand byte by byte, read again, and everything that isn't written so."""

import unittest

from helping import NO_LISTS, fields_of, refusal_of, rows
from linkyard.assembling import assembled
from linkyard.checks import sealed
from linkyard.partbytes import part_bytes, part_in
from linkyard.parts import Part

LETTERS = "abcdefghijklmnopqrstuvwxyz"


def name_written(name):
    return [len(name)] + list(name.encode("ascii"))


def section_written(mark, name, row):
    return [mark] + name_written(name) + [len(row) >> 8, len(row) & 255] + list(row)


def place_written(section, offset, way, name, row):
    return [section, offset >> 8, offset & 255, way] + name_written(name) + [row >> 8, row & 255]


def inner(sections, wants=(), places=(), name="p", mark=(109, 1), counts=(None, None, None)):
    """A part as it is written, without its check; counts stand in the place of the right ones."""
    told = [len(sections), len(wants), len(places)]
    told = [right if other is None else other for right, other in zip(told, counts)]
    row = list(mark) + name_written(name) + [told[0]]
    for section in sections:
        row += section_written(*section)
    row.append(told[1])
    for want in wants:
        row += name_written(want)
    row += [told[2] >> 8, told[2] & 255]
    for place in places:
        row += place_written(*place)
    return row


def written(*things, **more):
    return sealed(inner(*things, **more))


BY_HAND = rows("part ab", "shared main", "wants w", "code main", "call w", "hop main", "take d9", "stop", "data d9",
               "word 513")
BY_HAND_BYTES = [109, 1, 2, 97, 98, 2,
                 2, 4, 109, 97, 105, 110, 0, 9, 80, 0, 0, 66, 0, 81, 0, 0, 33,
                 1, 2, 100, 57, 0, 4, 0, 1, 2, 1,
                 1, 1, 119,
                 0, 3,
                 0, 0, 1, 1, 1, 119, 0, 5,
                 0, 0, 4, 0, 4, 109, 97, 105, 110, 0, 6,
                 0, 0, 6, 1, 2, 100, 57, 0, 7]


class Written(unittest.TestCase):
    def test_byte_by_byte(self):
        self.assertEqual(part_bytes(assembled(BY_HAND)), sealed(BY_HAND_BYTES))
        self.assertEqual(fields_of(part_in(sealed(BY_HAND_BYTES))), fields_of(assembled(BY_HAND)))

    def test_the_check_stands_behind(self):
        row = part_bytes(assembled(rows("part a", "code c", "stop")))
        self.assertEqual(row[:-2], [109, 1, 1, 97, 1, 0, 1, 99, 0, 1, 33, 0, 0, 0])
        check = 65535
        for bit in "".join([format(byte, "08b") for byte in row[:-2]]):
            check = ((check << 1) & 65535) ^ (4129 if (check >> 15) ^ int(bit) else 0)
        self.assertEqual(row[-2:], [check >> 8, check & 255])

    def test_each_mark_of_a_section(self):
        texts = ["part p", "shared b", "shared d", "code a", "stop", "code b", "back", "data c", "word 1", "data d",
                 "word 2"]
        self.assertEqual(part_bytes(assembled(rows(*texts))),
                         written([(0, "a", [33]), (2, "b", [32]), (1, "c", [0, 1, 0, 1]), (3, "d", [0, 1, 0, 2])]))

    def test_a_name_of_one_and_of_eight_signs(self):
        for name in ["a", "z", "abcdefgh", "a0123456", "z9"]:
            self.assertEqual(part_bytes(assembled(rows("part " + name, "code " + name, "stop"))),
                             written([(0, name, [33])], name=name))

    def test_of_parts_made_by_hand(self):
        part = Part("p", [("code", "c", False, [33])], ["w", "v"], [(1, 513, "near", "w", 600), (2, 5, "far", "v", 1)])
        self.assertEqual(part_bytes(part), written([(0, "c", [33])], ["w", "v"],
                                                   [(1, 513, 0, "w", 600), (2, 5, 1, "v", 1)]))

    def test_what_was_handed_in_and_told_may_be_changed(self):
        part = assembled(BY_HAND)
        before = fields_of(assembled(BY_HAND))
        row = part_bytes(part)
        again = part_bytes(part)
        self.assertEqual(fields_of(part), before)
        row[0] = 77
        row.append(5)
        self.assertEqual(part_bytes(part), again)
        read = part_in(again)
        kept = list(again)
        for place in range(len(again)):
            again[place] = 0
        self.assertEqual(fields_of(read), before)
        read.sections[0][3][0] = 99
        read.wants.append("more")
        self.assertEqual(fields_of(part_in(kept)), before)
        self.assertEqual(kept, part_bytes(assembled(BY_HAND)))


def big_texts():
    codes = [row for number in range(100) for row in ["code c%d" % number, "stop"]]
    wants = ["wants w%d" % number for number in range(100)]
    yield rows("part p", *wants, *codes)
    yield rows("part p", "data d", *["word %d" % (number * 2047) for number in range(32)], "data e", "word 0")
    yield rows("part p", "code c", *["push 513"] * 83, "stop", "code d", "back")
    yield rows("part p", *["# ahead"] * 595, "code c", "hop c", "call c", "stop")
    yield rows("part p", "wants w", "code c", *["call w"] * 83, "stop")
    yield rows("part p", "shared c", "code c", "at l", *["add"] * 126, "go l", *["add"] * 121, "stop")
    yield rows("part p", "code c", "go l", *["add"] * 127, "at l", "stop")
    yield rows("part p", "code c", "ifnot l", *["add"] * 127, "at l", "stop")


class ReadAgain(unittest.TestCase):
    def test_great_and_small_ones(self):
        for text in list(big_texts()) + [BY_HAND, rows("part a", "code c", "stop"), rows("part a", "data d", "word 1")]:
            part = assembled(text)
            read = part_in(part_bytes(part))
            self.assertTrue(fields_of(read) == fields_of(part), text[:60])
            self.assertTrue(part_bytes(read) == part_bytes(part), text[:60])
            self.assertEqual([type(section) for section in read.sections], [tuple] * len(part.sections))
            self.assertEqual([type(place) for place in read.places], [tuple] * len(part.places))
            self.assertEqual({type(section[2]) for section in read.sections}, {bool})

    def test_written_by_hand(self):
        cases = [inner([(0, "c", [33])]), inner([(3, "d", [0, 1, 9, 9])]), inner([(0, "c", [33])], ["w"]),
                 inner([(0, "c", [66, 0, 33])], [], [(0, 1, 0, "c", 1)]),
                 inner([(0, "c", [80, 0, 0, 33])], ["w"], [(0, 1, 1, "w", 600)]),
                 inner([(0, "c", [64, 254])]), inner([(0, "c", [65, 0, 33])]), inner([(0, "c", [65, 1, 22, 32])]),
                 inner([(0, "c", [82, 0, 0, 66, 0, 33]), (1, "d", [0, 1, 0, 0]), (0, "e", [81, 0, 0, 32])], ["w"],
                       [(0, 1, 1, "d", 7), (0, 4, 0, "e", 8), (2, 1, 1, "w", 600)])]
        for case in cases:
            self.assertEqual(part_bytes(part_in(sealed(case))), sealed(case))

    def test_goals_of_any_kind_are_let_by(self):
        for byte in [80, 81, 82]:
            row = inner([(0, "c", [byte, 0, 0, 33]), (1, "d", [0, 1, 0, 0])], [], [(0, 1, 1, "d", 4)])
            self.assertEqual(part_in(sealed(row)).places, [(0, 1, "far", "d", 4)])
            row = inner([(0, "c", [byte, 0, 0, 33])], [], [(0, 1, 1, "c", 4)])
            self.assertEqual(part_in(sealed(row)).places, [(0, 1, "far", "c", 4)])

    def test_a_go_and_an_ifnot_to_each_operation(self):
        code = [64, 0, 48, 7, 49, 1, 2, 65, 0, 32]
        for place in [0, 2, 4, 7, 9]:
            for near in [0, 7]:
                row = list(code)
                row[near + 1] = (place - near - 2) % 256
                self.assertEqual(part_in(written([(0, "c", row)])).sections, [("code", "c", False, row)])


GOOD = inner([(0, "c", [80, 0, 0, 33])], ["w"], [(0, 1, 1, "w", 4)])


class Refused(unittest.TestCase):
    def refuse(self, row, word="BadBytes"):
        before = list(row)
        self.assertEqual(refusal_of(part_in, row), (word,), row[:40])
        self.assertEqual(row, before)

    def test_what_is_no_row_of_bytes(self):
        for thing in NO_LISTS + [None]:
            self.assertEqual(refusal_of(part_in, thing), ("BadBytes",), repr(thing))
        self.refuse([])
        for byte in [0, 109, 255]:
            self.refuse([byte])
        good = sealed(GOOD)
        for place in range(len(good)):
            for wrong in [True, False, None, -1, 256, "7", 7.0, [7]]:
                self.refuse(good[:place] + [wrong] + good[place + 1:])

    def test_another_check(self):
        good = sealed(GOOD)
        for place in [len(good) - 2, len(good) - 1]:
            for byte in range(256):
                if byte != good[place]:
                    self.refuse(good[:place] + [byte] + good[place + 1:], "BadCheck")
        self.refuse([0, 0], "BadCheck")
        self.refuse(GOOD, "BadCheck")
        self.refuse([1, 2] + good[2:], "BadCheck")

    def test_each_bit_turned(self):
        good = part_bytes(assembled(BY_HAND))
        for place in range(len(good)):
            for bit in range(8):
                turned = list(good)
                turned[place] ^= 1 << bit
                self.assertEqual(refusal_of(part_in, turned), ("BadCheck",), (place, bit))

    def test_other_first_bytes(self):
        for mark in [(109, 0), (109, 2), (108, 1), (105, 1), (1, 109), (0, 0)]:
            self.refuse(written([(0, "c", [33])], mark=mark))
        self.refuse(written([(0, "c", [33])], mark=(109,)))
        self.refuse(written([(0, "c", [33])], mark=()))

    def test_a_byte_short_or_more(self):
        for size in range(len(GOOD)):
            self.refuse(sealed(GOOD[:size]))
        for byte in [0, 1, 33, 255]:
            self.refuse(sealed(GOOD + [byte]))
            self.refuse(sealed([byte] + GOOD))
        for place in range(len(GOOD)):
            self.refuse(sealed(GOOD[:place] + GOOD[place + 1:]))

    def test_names_that_are_none(self):
        wrong = ["", "abcdefghi", "7", "7a", "A", "aB", "a-", "a_", "a b", " a", "a\0", "a{", "a`", "a/", "a:", "{", "`"]
        for name in wrong:
            self.refuse(written([(0, "c", [33])], name=name))
            self.refuse(written([(0, name, [33])]))
            self.refuse(written([(1, name, [0, 1, 0, 0])]))
            self.refuse(written([(0, "c", [33])], [name]))
            self.refuse(written([(0, "c", [80, 0, 0, 33])], ["w"], [(0, 1, 1, name, 4)]))
            self.refuse(written([(0, "c", [80, 0, 0, 33]), (0, name, [33])], [], [(0, 1, 1, name, 4)]))

    def test_each_sign_of_a_name(self):
        for code in range(256):
            row = inner([(0, "cq", [33])])
            place = row.index(ord("q"))
            row[place] = code
            good = chr(code) in LETTERS + "0123456789"
            self.assertEqual(refusal_of(part_in, sealed(row)), None if good else ("BadBytes",), code)
            row = inner([(0, "q", [33])])
            row[row.index(ord("q"))] = code
            good = chr(code) in LETTERS
            self.assertEqual(refusal_of(part_in, sealed(row)), None if good else ("BadBytes",), code)

    def test_how_many_sections_and_wants(self):
        self.refuse(written([]))
        codes = [(0, "c%d" % number, [33]) for number in range(101)]
        self.refuse(written(codes))
        self.assertEqual(len(part_in(written(codes[:100])).sections), 100)
        wants = ["w%d" % number for number in range(101)]
        self.refuse(written([(0, "c", [33])], wants))
        self.assertEqual(part_in(written([(0, "c", [33])], wants[:100])).wants, wants[:100])

    def test_other_counts_than_there_are(self):
        sections, wants, places = [(0, "c", [80, 0, 0, 33]), (0, "d", [33])], ["w", "v"], [(0, 1, 1, "w", 4)]
        self.assertIsNone(refusal_of(part_in, written(sections, wants, places)))
        for counts in [(1, None, None), (3, None, None), (0, None, None), (255, None, None), (None, 1, None),
                       (None, 3, None), (None, 0, None), (None, 255, None), (None, None, 0), (None, None, 2),
                       (None, None, 65535), (None, None, 256)]:
            self.refuse(written(sections, wants, places, counts=counts))

    def test_names_told_twice(self):
        self.refuse(written([(0, "c", [33]), (0, "c", [33])]))
        self.refuse(written([(0, "c", [33]), (1, "d", [0, 1, 0, 0]), (1, "c", [0, 1, 0, 0])]))
        self.refuse(written([(2, "c", [33]), (0, "c", [33])]))
        self.refuse(written([(0, "c", [33])], ["w", "w"]))
        self.refuse(written([(0, "c", [33])], ["w", "v", "w"]))
        self.refuse(written([(0, "c", [33])], ["c"]))
        self.refuse(written([(1, "c", [0, 1, 0, 0]), (2, "d", [33])], ["w", "d"]))
        self.assertIsNone(refusal_of(part_in, written([(0, "p", [33])], ["w"])))

    def test_marks_of_sections_that_are_none(self):
        for mark in range(4, 256):
            self.refuse(written([(mark, "c", [33])]))
        for mark in [0, 2]:
            self.refuse(written([(mark, "c", [0, 1, 0, 0])]))
        for mark in [1, 3]:
            self.refuse(written([(mark, "c", [33])]))

    def test_data_whose_count_is_another(self):
        for row in [[], [0], [0, 0], [0, 1], [0, 1, 0], [0, 1, 0, 0, 0], [0, 1, 0, 0, 0, 0], [0, 2, 0, 0], [1, 0],
                    [1, 1, 0, 0], [0, 0, 0, 0], [0, 3, 0, 0, 0, 0], [0, 2, 0, 0, 0], [0, 33] + [0] * 66,
                    [0, 32] + [0] * 66, [0, 33] + [0] * 64, [0, 32] + [0] * 63, [1, 0] + [0] * 512]:
            self.refuse(written([(1, "d", row)]))
        for count in [1, 2, 31, 32]:
            self.assertIsNone(refusal_of(part_in, written([(1, "d", [0, count] + [7, 9] * count)])))

    def test_codes_that_are_not_whole(self):
        for row in [[], [0, 33], [15, 33], [34, 33], [47, 33], [50, 33], [63, 33], [67, 33], [79, 33], [83, 33], [255, 33],
                    [33, 48], [33, 49], [33, 49, 33], [33, 64], [33, 65], [33, 80, 0], [33, 0], [48, 33], [49, 0, 33]]:
            self.refuse(written([(0, "c", row)]))

    def test_codes_that_end_otherwise(self):
        for byte in range(16, 32):
            self.refuse(written([(0, "c", [byte])]))
            self.refuse(written([(0, "c", [33, byte])]))
        for row in [[48, 33], [48, 32], [49, 33, 33], [65, 254], [33, 65, 253], [33, 48, 64]]:
            self.refuse(written([(0, "c", row)]))
        self.refuse(written([(0, "c", [66, 0])], [], [(0, 1, 0, "c", 4)]))
        self.refuse(written([(0, "c", [80, 0, 0])], [], [(0, 1, 1, "c", 4)]))

    def test_codes_of_250_and_251_bytes(self):
        self.assertIsNone(refusal_of(part_in, written([(0, "c", [16] * 249 + [33])])))
        self.refuse(written([(0, "c", [16] * 250 + [33])]))
        self.refuse(written([(0, "c", [16] * 600 + [33])]))
        self.refuse(written([(0, "c", [33]), (2, "d", [49, 0, 0] * 83 + [16, 33])]))

    def test_goes_that_lead_to_no_operation(self):
        code = [64, 0, 48, 7, 49, 1, 2, 65, 0, 32]
        starts = [0, 2, 4, 7, 9]
        for near in [0, 7]:
            for place in range(near + 2 - 128, near + 2 + 128):
                row = list(code)
                row[near + 1] = (place - near - 2) % 256
                row[8 if near == 0 else 1] = 0
                expected = None if place in starts else ("BadBytes",)
                self.assertEqual(refusal_of(part_in, written([(0, "c", row)])), expected, (near, place))
        self.refuse(written([(0, "c", [64, 0])]))
        self.refuse(written([(0, "c", [64, 0]), (0, "d", [33])]))
        self.refuse(written([(0, "d", [33]), (0, "c", [64, 253])]))

    def test_places(self):
        sections = [(0, "c", [80, 0, 0, 66, 0, 33]), (1, "d", [0, 1, 0, 0]), (0, "e", [81, 0, 0, 82, 0, 0, 32])]
        good = [(0, 1, 1, "w", 4), (0, 4, 0, "c", 5), (2, 1, 1, "d", 10), (2, 4, 1, "d", 11)]
        self.assertIsNone(refusal_of(part_in, written(sections, ["w"], good)))
        for number in range(4):
            self.refuse(written(sections, ["w"], good[:number] + good[number + 1:]))
            self.refuse(written(sections, ["w"], good[:number + 1] + good[number:]))
            place = good[number]
            for wrong in [(place[0] + 1,) + place[1:], (1,) + place[1:], (3,) + place[1:], (255,) + place[1:],
                          (place[0], place[1] - 1) + place[2:], (place[0], place[1] + 1) + place[2:],
                          (place[0], place[1] + 256) + place[2:], (place[0], 65535) + place[2:],
                          place[:2] + (1 - place[2],) + place[3:], place[:2] + (2,) + place[3:],
                          place[:2] + (255,) + place[3:], place[:3] + ("x",) + place[4:], place[:3] + ("p",) + place[4:],
                          place[:4] + (0,), place[:4] + (601,), place[:4] + (65535,)]:
                self.refuse(written(sections, ["w"], good[:number] + [wrong] + good[number + 1:]))
        self.refuse(written(sections, ["w"], []))
        self.refuse(written(sections, ["w"], good + [(2, 6, 1, "d", 12)]))
        self.refuse(written(sections, ["w"], good + [(1, 2, 1, "d", 12)]))

    def test_places_out_of_order(self):
        sections = [(0, "c", [80, 0, 0, 80, 0, 0, 33]), (0, "d", [80, 0, 0, 33])]
        places = [(0, 1, 1, "c", 1), (0, 4, 1, "c", 2), (1, 1, 1, "c", 3)]
        self.assertIsNone(refusal_of(part_in, written(sections, [], places)))
        for order in [(0, 2, 1), (1, 0, 2), (1, 2, 0), (2, 0, 1), (2, 1, 0)]:
            moved = [places[number] for number in order]
            self.refuse(written(sections, [], moved))
            self.refuse(written(sections, [], [place[:4] + (row,) for row, place in enumerate(moved, start=1)]))

    def test_places_of_no_operation(self):
        self.refuse(written([(0, "c", [33])], [], [(0, 1, 1, "c", 4)]))
        self.refuse(written([(0, "c", [49, 0, 0, 33])], [], [(0, 1, 1, "c", 4)]))
        self.refuse(written([(0, "c", [48, 0, 33])], [], [(0, 1, 0, "c", 4)]))
        self.refuse(written([(0, "c", [64, 0, 33])], [], [(0, 1, 0, "c", 4)]))
        self.refuse(written([(0, "c", [65, 0, 33])], [], [(0, 1, 0, "c", 4)]))
        self.refuse(written([(1, "c", [0, 1, 0, 0])], [], [(0, 2, 1, "c", 4)]))

    def test_places_that_are_filled_in(self):
        for byte in [80, 81, 82]:
            for two in [[0, 1], [1, 0], [255, 255], [0, 255]]:
                self.refuse(written([(0, "c", [byte] + two + [33])], ["w"], [(0, 1, 1, "w", 4)]))
        for one in [1, 128, 255]:
            self.refuse(written([(0, "c", [66, one, 33])], ["w"], [(0, 1, 0, "w", 4)]))

    def test_rows_of_places(self):
        sections = [(0, "c", [80, 0, 0, 66, 0, 33])]
        for first, second in [(1, 2), (1, 600), (599, 600), (300, 301)]:
            self.assertIsNone(refusal_of(part_in, written(sections, ["w"], [(0, 1, 1, "w", first),
                                                                            (0, 4, 0, "w", second)])))
        for first, second in [(0, 1), (1, 1), (2, 1), (600, 600), (600, 601), (600, 1), (5, 4), (0, 0), (1, 601),
                              (1, 256 * 255), (601, 602)]:
            self.refuse(written(sections, ["w"], [(0, 1, 1, "w", first), (0, 4, 0, "w", second)]))


if __name__ == "__main__":
    unittest.main()
