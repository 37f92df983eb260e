"""Bytes, words, names, written numbers, and rows of bytes as texts."""

import copy
import unittest

from linkyard.errors import BadBytes, BadText
from linkyard.words import (hidden, is_byte, is_name, is_word, need_bytes, number_in, shown, sixteens, two_of,
                            word_in)

LETTERS = "abcdefghijklmnopqrstuvwxyz"
FIGURES = "0123456789"
NO_NUMBERS = [True, False, None, "", "0", "7", "a", 0.0, 7.0, float("nan"), float("inf"), 1j, b"\x07", [], [7], (),
              (7,), {}, {7: 7}, set(), range(3), object(), int, len]
NO_TEXTS = [True, False, None, 0, 7, -1, 65535, 7.0, b"", b"0", b"00", bytearray(b"00"), [], ["0"], ["00"], [0], (),
            ("00",), {}, {"00": 0}, set(), object(), str, len]


class Numbers(unittest.TestCase):
    def test_is_byte_at_its_bounds(self):
        for thing, told in [(0, True), (1, True), (254, True), (255, True), (256, False), (257, False), (-1, False),
                            (-255, False), (65535, False), (10 ** 50, False), (-10 ** 50, False)]:
            self.assertIs(is_byte(thing), told, thing)

    def test_is_word_at_its_bounds(self):
        for thing, told in [(0, True), (1, True), (255, True), (256, True), (65534, True), (65535, True),
                            (65536, False), (65537, False), (-1, False), (-65535, False), (10 ** 50, False)]:
            self.assertIs(is_word(thing), told, thing)

    def test_all_else_is_neither(self):
        for thing in NO_NUMBERS:
            self.assertIs(is_byte(thing), False, repr(thing))
            self.assertIs(is_word(thing), False, repr(thing))


class Names(unittest.TestCase):
    def test_names(self):
        for text in ["a", "z", "main", "a0", "z9", "abcdefgh", "a1234567", "zzzzzzzz", "x00ff"]:
            self.assertIs(is_name(text), True, text)
        for sign in LETTERS:
            self.assertIs(is_name(sign), True, sign)
        for sign in LETTERS + FIGURES:
            self.assertIs(is_name("q" + sign), True, sign)
            self.assertIs(is_name("qabcdef" + sign), True, sign)

    def test_too_short_and_too_long(self):
        for text in ["", "abcdefghi", "a12345678", "a" * 9, "a" * 40000]:
            self.assertIs(is_name(text), False, text[:12])

    def test_no_figure_first(self):
        for sign in FIGURES:
            self.assertIs(is_name(sign), False, sign)
            self.assertIs(is_name(sign + "abc"), False, sign)

    def test_no_other_sign_at_any_place(self):
        signs = [chr(code) for code in range(0, 400)] + ["\u0660", "\u03b1", "\uff41", "\ud800", "\U0001d41a"]
        for sign in signs:
            if sign in LETTERS + FIGURES:
                continue
            for text in [sign, sign + "a", "a" + sign, "ab" + sign + "cd", "abcdefg" + sign]:
                self.assertIs(is_name(text), False, repr(text))

    def test_all_that_is_no_text(self):
        for thing in NO_TEXTS + [["a"], ("a",), ["m", "a"], b"main", {"a": 1}]:
            self.assertIs(is_name(thing), False, repr(thing))


class NeedBytes(unittest.TestCase):
    def test_the_same_row_in_a_new_list(self):
        for row in [[], [0], [255], [0, 255, 7, 7], list(range(256)), [1] * 9000]:
            before = list(row)
            told = need_bytes(row)
            self.assertEqual(told, before)
            self.assertIs(type(told), list)
            self.assertIsNot(told, row)
            told.append(300)
            self.assertEqual(row, before)
            self.assertEqual(need_bytes(row), before)

    def test_what_is_no_list(self):
        for thing in [None, True, False, 0, 7, "", "abc", "00 01", b"", b"abc", bytearray(b"abc"), (), (0, 1), {},
                      {0: 1}, set(), {1}, range(4), iter([1]), 1.0, object(), list]:
            with self.assertRaises(BadBytes, msg=repr(thing)):
                need_bytes(thing)

    def test_what_holds_no_byte_at_some_place(self):
        for wrong in NO_NUMBERS + [-1, 256, 65535, -255, 10 ** 50]:
            for place in range(4):
                row = [1, 2, 3]
                row.insert(place, wrong)
                with self.assertRaises(BadBytes, msg=repr(row)):
                    need_bytes(row)
            with self.assertRaises(BadBytes):
                need_bytes([wrong])

    def test_a_list_that_holds_itself(self):
        row = [1]
        row.append(row)
        with self.assertRaises(BadBytes):
            need_bytes(row)

    def test_what_is_refused_stays_as_it_was(self):
        row = [1, [2], 256, None]
        with self.assertRaises(BadBytes):
            need_bytes(row)
        self.assertEqual(row, [1, [2], 256, None])


class WrittenNumbers(unittest.TestCase):
    def test_every_word_by_figures_and_by_sixteens(self):
        for number in range(65536):
            self.assertEqual(number_in("%d" % number), number)
            self.assertEqual(number_in("x%04x" % number), number)
            self.assertEqual(sixteens(number), "x%04x" % number)

    def test_a_number_and_no_truth_is_told(self):
        for text in ["0", "1", "x0000", "x0001"]:
            self.assertIs(type(number_in(text)), int)

    def test_figures_that_write_none(self):
        for text in ["65536", "65537", "70000", "99999", "100000", "655350", "9" * 5000, "00", "01", "007", "065535",
                     "00000", "000000", "-1", "-0", "+1", "+0", "--1", "1.0", "1e3", "1_0", "0x1", "0b1", "12a", "ff",
                     "a", "one", "1,0", "1#", "\u0661", "\u00b2", "\uff11", "6553\u0665"]:
            self.assertIsNone(number_in(text), text[:12])

    def test_sixteens_that_write_none(self):
        for text in ["x", "x0", "xff", "x0ff", "x000ff", "x00000", "X00ff", "x00FF", "x00fF", "x00fg", "xg000",
                     "x-0ff", "x+0ff", "x 0ff", "x00f ", "x00_f", "xx0ff", "00ff", "0x00ff", "y00ff", "x00ff0",
                     "x00f\uff10", "x00f\u0661", "x00f\n"]:
            self.assertIsNone(number_in(text), text)

    def test_blanks_and_line_ends_and_none_at_all(self):
        for text in ["", " ", "\n", "\t"]:
            self.assertIsNone(number_in(text), repr(text))
        for good in ["0", "7", "65535", "x00ff"]:
            for blank in [" ", "\n", "\t", "\r", "\0", "\u00a0"]:
                self.assertIsNone(number_in(good + blank), repr(good + blank))
                self.assertIsNone(number_in(blank + good), repr(blank + good))
            self.assertIsNone(number_in(good[0] + " " + good[1:]), good)

    def test_each_sign_beside_the_figures(self):
        for code in range(128):
            sign = chr(code)
            if sign not in FIGURES:
                self.assertIsNone(number_in(sign), repr(sign))
                self.assertIsNone(number_in("1" + sign), repr(sign))
                self.assertIsNone(number_in("123" + sign + "5"), repr(sign))
            if sign not in FIGURES + "abcdef":
                for place in range(4):
                    text = "x" + "0000"[:place] + sign + "0000"[place + 1:]
                    self.assertIsNone(number_in(text), repr(text))

    def test_all_that_is_no_text(self):
        for thing in NO_TEXTS + [["x", "0", "0", "f", "f"], ["1", "2"], ("7",), b"x00ff", b"7"]:
            self.assertIsNone(number_in(thing), repr(thing))

    def test_sixteens_at_the_bounds(self):
        for number, text in [(0, "x0000"), (9, "x0009"), (10, "x000a"), (15, "x000f"), (16, "x0010"), (255, "x00ff"),
                             (256, "x0100"), (4096, "x1000"), (43981, "xabcd"), (65535, "xffff")]:
            self.assertEqual(sixteens(number), text)


class WordsAsBytes(unittest.TestCase):
    def test_two_of_at_the_bounds(self):
        for number, row in [(0, [0, 0]), (1, [0, 1]), (255, [0, 255]), (256, [1, 0]), (257, [1, 1]), (4660, [18, 52]),
                            (65280, [255, 0]), (65534, [255, 254]), (65535, [255, 255])]:
            self.assertEqual(two_of(number), row)
            self.assertEqual(word_in(row), number)

    def test_two_of_is_a_new_list_each_time(self):
        first = two_of(258)
        first.append(9)
        first[0] = 77
        self.assertEqual(two_of(258), [1, 2])

    def test_every_word_there_and_back(self):
        for number in range(65536):
            row = two_of(number)
            self.assertTrue(len(row) == 2 and is_byte(row[0]) and is_byte(row[1]))
            self.assertEqual(word_in(row), number)

    def test_word_in_at_a_place_and_without_one(self):
        row = [1, 2, 3, 255, 255, 0]
        self.assertEqual(word_in(row), 258)
        self.assertEqual([word_in(row, place) for place in range(5)], [258, 515, 1023, 65535, 65280])
        self.assertEqual(word_in(row, place=1), 515)
        self.assertEqual(row, [1, 2, 3, 255, 255, 0])


def shown_plainly(row):
    text = ""
    for place, byte in enumerate(row):
        if place > 0:
            text += "\n" if place % 16 == 0 else " "
        text += "%02x" % byte
    return text


ROWS = [[(place * 37 + size) % 256 for place in range(size)] for size in list(range(0, 52)) + [255, 256, 257, 9000]]


class ShownAndHidden(unittest.TestCase):
    def test_shown_by_hand(self):
        self.assertEqual(shown([]), "")
        self.assertEqual(shown([0]), "00")
        self.assertEqual(shown([7, 255]), "07 ff")
        self.assertEqual(shown([10, 171, 16]), "0a ab 10")
        full = "00 01 02 03 04 05 06 07 08 09 0a 0b 0c 0d 0e 0f"
        self.assertEqual(shown(list(range(15))), full[:-3])
        self.assertEqual(shown(list(range(16))), full)
        self.assertEqual(shown(list(range(17))), full + "\n10")
        second = "10 11 12 13 14 15 16 17 18 19 1a 1b 1c 1d 1e 1f"
        self.assertEqual(shown(list(range(31))), full + "\n" + second[:-3])
        self.assertEqual(shown(list(range(32))), full + "\n" + second)
        self.assertEqual(shown(list(range(33))), full + "\n" + second + "\n20")

    def test_shown_and_hidden_again_of_many_sizes(self):
        for row in ROWS + [list(range(256))]:
            before = list(row)
            text = shown(row)
            # assertTrue, as assertEqual would look for the differences of long rows for minutes.
            self.assertTrue(text == shown_plainly(row), text[:100])
            self.assertTrue(hidden(text) == before, text[:100])
            self.assertTrue(row == before, text[:100])

    def test_hidden_is_a_new_list_each_time(self):
        first = hidden("01 02")
        first.append(3)
        self.assertEqual(hidden("01 02"), [1, 2])
        empty = hidden("")
        empty.append(3)
        self.assertEqual(hidden(""), [])

    def refuse(self, text):
        with self.assertRaises(BadText, msg=repr(text)):
            hidden(text)

    def test_hidden_of_what_is_no_text(self):
        for thing in NO_TEXTS + [[1, 2], ["0", "0"], b"01 02", ("0", "1")]:
            before = copy.copy(thing)
            self.refuse(thing)
            if isinstance(thing, (list, dict, set, tuple, bytearray)):
                self.assertEqual(thing, before)

    def test_hidden_of_short_texts_that_show_nothing(self):
        for text in [" ", "\n", "0", "f", "0 ", " 0", "00 ", " 00", "00\n", "\n00", "000", "0000", "00 0", "0 00",
                     "00  00", "00\n00", "00\t00", "00,00", "00-00", "0x00", "x0000", "-1", "+1", "0g", "g0", "0F",
                     "F0", "FF", "fF", "00 FF", "zz", "  ", "   ", "\n\n", "00\r", "00\r\n", "0\u0660", "\uff10\uff10",
                     "00\u00a000", "00 \ud800\ud800", "words", "0_0", "1 2", "1 23", "12 3 45"]:
            self.refuse(text)

    def test_a_blank_or_a_line_end_more_or_fewer(self):
        for size in [1, 2, 15, 16, 17, 31, 32, 33, 48]:
            text = shown(list(range(size)))
            for place in range(len(text) + 1):
                for sign in [" ", "\n", "\t", "0"]:
                    self.refuse(text[:place] + sign + text[place:])
            for place in range(len(text)):
                self.refuse(text[:place] + text[place + 1:])

    def test_a_blank_for_a_line_end_and_the_other_way_round(self):
        for size in [2, 16, 17, 32, 33, 49]:
            text = shown(list(range(size)))
            for place, sign in enumerate(text):
                if sign in " \n":
                    other = "\n" if sign == " " else " "
                    self.refuse(text[:place] + other + text[place + 1:])

    def test_rows_too_short_or_too_long(self):
        pairs = ["%02x" % byte for byte in range(40)]
        for first in [1, 8, 15, 17, 18, 32]:
            self.refuse(" ".join(pairs[:first]) + "\n" + " ".join(pairs[first:]))
        self.refuse(" ".join(pairs[:17]))
        self.refuse(" ".join(pairs[:16]) + "\n" + " ".join(pairs[16:33]))
        self.refuse(" ".join(pairs[:16]) + "\n\n" + " ".join(pairs[16:32]))

    def test_great_letters_and_each_other_sign(self):
        text = shown([171, 205, 239])
        self.refuse(text.upper())
        for code in range(128):
            sign = chr(code)
            if sign not in "0123456789abcdef":
                for place in [0, 1, 3, 4, 6, 7]:
                    self.refuse(text[:place] + sign + text[place + 1:])
            for place in [2, 5]:
                if sign != " ":
                    self.refuse(text[:place] + sign + text[place + 1:])

    def test_a_text_somewhat_beyond_the_bound_is_not_refused_for_it(self):
        row = [5] * 14000
        self.assertGreater(len(shown(row)), 40000)
        self.assertTrue(hidden(shown(row)) == row)


if __name__ == "__main__":
    unittest.main()
