"""Texts assembled to parts, and each refusal with its part, row and name."""

import unittest

from helping import NO_TEXTS, fields_of, refusal_of, rows
from linkyard.assembling import assembled

SMALLEST = ("part a", "code c", "stop")


def of(*texts):
    return fields_of(assembled(rows(*texts)))


class GoodTexts(unittest.TestCase):
    def test_the_smallest(self):
        self.assertEqual(of("part a", "code c", "stop"), ("a", [("code", "c", False, [33])], [], []))
        self.assertEqual(of("part a", "data d", "word 7"), ("a", [("data", "d", False, [0, 1, 0, 7])], [], []))

    def test_each_operation_byte_by_byte(self):
        alone = "add sub mul and or xor not left right less same dup drop swap ask tell back stop".split()
        told = of("part a", "wants w", "code c", *alone, "small 7", "small x00ff", "push 258", "push xfffe", "hop w",
                  "call w", "take w", "put w", "at l", "ifnot l", "go l")
        self.assertEqual(told[1], [("code", "c", False, list(range(16, 34)) + [
            48, 7, 48, 255, 49, 1, 2, 49, 255, 254, 66, 0, 80, 0, 0, 81, 0, 0, 82, 0, 0, 65, 254, 64, 252])])
        self.assertEqual(told[3], [(0, 29, "near", "w", 26), (0, 31, "far", "w", 27), (0, 34, "far", "w", 28),
                                   (0, 37, "far", "w", 29)])

    def test_remarks_blanks_and_rows_without_words(self):
        told = of("", "# part b", "   ", "  part   a  # its name", "#", "##", "shared c#nothing", "", " code c ",
                  "   at  l#", "small 1 # two # remarks", "#stop", " take d", "go l", "  # at m", "data    d", "",
                  "word 5#6", "#", "  ")
        self.assertEqual(told, ("a", [("code", "c", True, [48, 1, 81, 0, 0, 64, 249]),
                                      ("data", "d", False, [0, 1, 0, 5])], [], [(0, 3, "far", "d", 13)]))

    def test_line_ends_at_both_ends(self):
        expected = of(*SMALLEST)
        self.assertEqual(fields_of(assembled("\n\n" + rows(*SMALLEST) + "\n\n\n")), expected)
        self.assertEqual(fields_of(assembled(rows(*SMALLEST) + "\n")), expected)

    def test_600_rows(self):
        for text in [rows(*SMALLEST) + "\n" * 597, "\n" * 597 + rows(*SMALLEST),
                     rows("part a", "code c", *["# remark"] * 597, "stop")]:
            self.assertEqual(len(text.split("\n")), 600)
            self.assertEqual(fields_of(assembled(text)), ("a", [("code", "c", False, [33])], [], []))
        last = of("part a", *[""] * 596, "code c", "hop c", "stop")
        self.assertEqual(last[3], [(0, 1, "near", "c", 599)])

    def test_signs_from_the_blank_to_the_last(self):
        signs = "".join([chr(code) for code in range(32, 127)])
        self.assertEqual(of("part a # " + signs, "code c", "stop#" + signs), of(*SMALLEST))

    def test_a_text_somewhat_longer_than_40000_signs_is_not_refused_for_it(self):
        text = rows("part a #" + "w" * 41000, "code c", "stop")
        self.assertEqual(fields_of(assembled(text)), of(*SMALLEST))

    def test_one_and_100_sections(self):
        codes = [row for number in range(50) for row in ["code c%d" % number, "stop"]]
        data = [row for number in range(50) for row in ["data d%d" % number, "word %d" % number]]
        told = of("part a", *codes, *data)
        self.assertEqual(told[1], [("code", "c%d" % number, False, [33]) for number in range(50)]
                         + [("data", "d%d" % number, False, [0, 1, 0, number]) for number in range(50)])
        self.assertEqual(len(told[1]), 100)

    def test_codes_and_data_stand_as_they_were_told(self):
        told = of("part a", "shared e", "shared b", "data b", "word 1", "code e", "put b", "take b", "back", "data c",
                  "word 0", "code d", "call e", "stop")
        self.assertEqual(told[1], [("data", "b", True, [0, 1, 0, 1]), ("code", "e", True, [82, 0, 0, 81, 0, 0, 32]),
                                   ("data", "c", False, [0, 1, 0, 0]), ("code", "d", False, [80, 0, 0, 33])])
        self.assertEqual(told[3], [(1, 1, "far", "b", 7), (1, 4, "far", "b", 8), (3, 1, "far", "e", 13)])

    def test_100_wants_in_order_and_shared_between(self):
        names = ["w%d" % number for number in range(100)]
        wants = ["wants " + name for name in names]
        self.assertEqual(of("part a", *wants, "code c", "stop")[2], names)
        self.assertEqual(of("part a", "wants z", "shared c", "wants b", "code c", "stop")[2], ["z", "b"])

    def test_one_and_32_words(self):
        self.assertEqual(of("part a", "data d", "word 65535")[1], [("data", "d", False, [0, 1, 255, 255])])
        words = ["word %d" % (number * 257) for number in range(32)]
        row = [0, 32] + [byte for number in range(32) for byte in [number, number]]
        self.assertEqual(of("part a", "data d", *words)[1], [("data", "d", False, row)])
        self.assertEqual(of("part a", "data d", "word 0", "word x0000", "word x1234", "word 513")[1],
                         [("data", "d", False, [0, 4, 0, 0, 0, 0, 18, 52, 2, 1])])

    def test_a_code_of_just_250_bytes(self):
        told = of("part a", "code c", *["push 1"] * 83, "stop")
        self.assertEqual(told[1], [("code", "c", False, [49, 0, 1] * 83 + [33])])
        self.assertEqual(len(told[1][0][3]), 250)
        self.assertEqual(of("part a", "code c", *["add"] * 249, "back")[1][0][3], [16] * 249 + [32])

    def test_last_operations(self):
        self.assertEqual(of("part a", "code c", "at l", "go l")[1][0][3], [64, 254])
        self.assertEqual(of("part a", "code c", "back")[1][0][3], [32])
        self.assertEqual(of("part a", "code c", "stop", "back", "stop")[1][0][3], [33, 32, 33])

    def test_labels_side_by_side_and_ahead_and_behind(self):
        told = of("part a", "code c", "at l", "at m", "at n", "go p", "ifnot n", "go m", "at p", "at q", "ifnot l",
                  "go q")
        self.assertEqual(told[1], [("code", "c", False, [64, 4, 65, 252, 64, 250, 65, 248, 64, 252])])

    def test_a_label_of_one_name_in_each_section(self):
        told = of("part a", "code c", "at l", "go l", "code d", "tell", "at l", "go l")
        self.assertEqual(told[1], [("code", "c", False, [64, 254]), ("code", "d", False, [31, 64, 254])])

    def test_labels_called_like_sections_and_wants(self):
        told = of("part c", "shared c", "wants w", "code c", "at c", "at w", "go c", "hop w", "go w")
        self.assertEqual(told[1], [("code", "c", True, [64, 254, 66, 0, 64, 250])])
        self.assertEqual(told[3], [(0, 3, "near", "w", 8)])

    def test_names_that_are_words_of_the_rows(self):
        told = of("part part", "shared shared", "shared code", "wants wants", "wants word", "code code", "at at",
                  "at go", "go at", "ifnot go", "call wants", "hop data", "go go", "code data", "put shared",
                  "take word", "stop", "data shared", "word 1")
        self.assertEqual(told[0], "part")
        self.assertEqual(told[1], [("code", "code", True, [64, 254, 65, 252, 80, 0, 0, 66, 0, 64, 245]),
                                   ("code", "data", False, [82, 0, 0, 81, 0, 0, 33]),
                                   ("data", "shared", True, [0, 1, 0, 1])])
        self.assertEqual(told[2], ["wants", "word"])
        self.assertEqual(told[3], [(0, 5, "far", "wants", 11), (0, 8, "near", "data", 12),
                                   (1, 1, "far", "shared", 15), (1, 4, "far", "word", 16)])

    def test_names_that_look_like_numbers_by_sixteens(self):
        self.assertEqual(of("part x00ff", "code x0001", "call x0001", "push x0001", "stop"),
                         ("x00ff", [("code", "x0001", False, [80, 0, 0, 49, 0, 1, 33])], [],
                          [(0, 1, "far", "x0001", 3)]))

    def test_goals_of_any_kind_are_let_by(self):
        told = of("part a", "wants w", "code c", "hop d", "call d", "take c", "put c", "hop w", "take w", "stop",
                  "data d", "word 1")
        self.assertEqual([place[3] for place in told[3]], ["d", "d", "c", "c", "w", "w"])

    def test_shared_and_wanted_at_once_are_told_by_their_rows(self):
        told = of("part a", "shared d", "shared c", "code c", "stop", "data d", "word 1")
        self.assertEqual([section[2] for section in told[1]], [True, True])
        self.assertEqual(assembled(rows("part a", "shared d", "shared c", "code c", "stop", "data d", "word 1")).names(),
                         ["c", "d"])

    def test_what_is_told_is_the_askers_own(self):
        first = assembled(rows("part a", "wants w", "code c", "call w", "stop"))
        before = of("part a", "wants w", "code c", "call w", "stop")
        first.sections[0][3].append(9)
        first.sections.append(first.sections[0])
        first.wants.append("more")
        first.places.append((0, 0, "far", "w", 1))
        self.assertEqual(of("part a", "wants w", "code c", "call w", "stop"), before)


def gap(size):
    """Rows of operations that have so many bytes."""
    return ["push 1"] * (size // 3) + ["add"] * (size % 3)


class Reaches(unittest.TestCase):
    def test_just_127_ahead(self):
        for word, byte in [("go", 64), ("ifnot", 65)]:
            told = of("part a", "code c", word + " l", *gap(127), "at l", "stop")
            self.assertEqual(told[1][0][3][:2], [byte, 127])
            self.assertEqual(len(told[1][0][3]), 130)

    def test_just_128_back(self):
        for word, byte in [("go", 64), ("ifnot", 65)]:
            told = of("part a", "code c", "at l", *gap(126), word + " l", "stop")
            self.assertEqual(told[1][0][3][126:], [byte, 128, 33])

    def test_to_the_byte_behind_and_to_itself(self):
        self.assertEqual(of("part a", "code c", "ifnot l", "at l", "stop")[1][0][3], [65, 0, 33])
        self.assertEqual(of("part a", "code c", "add", "at l", "ifnot l", "stop")[1][0][3], [16, 65, 254, 33])

    def test_one_more(self):
        for word in ["go", "ifnot"]:
            ahead = gap(128)
            self.assertEqual(refusal_of(assembled, rows("part a", "code c", word + " l", *ahead, "at l", "stop")),
                             ("TooFar", "a", 3, "l"))
            back = gap(127)
            self.assertEqual(refusal_of(assembled, rows("part a", "code c", "at l", *back, word + " l", "stop")),
                             ("TooFar", "a", 4 + len(back), "l"))

    def test_far_beyond(self):
        self.assertEqual(refusal_of(assembled, rows("part a", "code c", "go l", *gap(247), "at l", "stop")),
                         ("TooFar", "a", 3, "l"))
        self.assertEqual(refusal_of(assembled, rows("part a", "code c", "at l", *gap(248), "go l")),
                         ("TooFar", "a", 4 + len(gap(248)), "l"))

    def test_each_of_several_is_reckoned_from_its_own_place(self):
        told = of("part a", "code c", "at l", *gap(100), "go l", *gap(100), "at m", "go m")
        self.assertEqual(told[1][0][3][100:102], [64, 256 - 102])
        self.assertEqual(refusal_of(assembled, rows("part a", "code c", "at l", *gap(100), "go l", *gap(100), "go l")),
                         ("TooFar", "a", 5 + 2 * len(gap(100)), "l"))


class Refusals(unittest.TestCase):
    def refuse(self, expected, *texts):
        self.assertEqual(refusal_of(assembled, rows(*texts)), expected, texts[:12])

    def test_what_is_no_text(self):
        for thing in NO_TEXTS:
            self.assertEqual(refusal_of(assembled, thing), ("BadText",), repr(thing))

    def test_signs_that_texts_have_not(self):
        for sign in ["\t", "\r", "\0", "\x7f", "\x1f", "\x0b", "\x0c", "\x85", "\u00a0", "\u00e9", "\u2028", "\ud800"]:
            for text in [sign, sign + rows(*SMALLEST), rows(*SMALLEST) + sign, rows("part a # " + sign, "code c", "stop"),
                         rows("part" + sign + "a", "code c", "stop"), rows("part a", "code c", "stop" + sign)]:
                self.assertEqual(refusal_of(assembled, text), ("BadText",), repr(text))

    def test_601_rows(self):
        self.assertEqual(refusal_of(assembled, rows(*SMALLEST) + "\n" * 598), ("BadText",))
        self.assertEqual(refusal_of(assembled, "\n" * 600), ("BadText",))
        self.assertEqual(refusal_of(assembled, "nothing\n" * 600), ("BadText",))
        self.assertEqual(refusal_of(assembled, "\n" * 20000), ("BadText",))

    def test_no_part(self):
        for text, row in [("", 1), (" ", 1), ("#", 1), ("# part a", 1), ("\n", 2), ("\n\n#\n", 4), ("\n" * 599, 600)]:
            self.assertEqual(refusal_of(assembled, text), ("BadRow", "", row), repr(text))

    def test_no_section(self):
        self.refuse(("BadRow", "a", 1), "part a")
        self.refuse(("BadRow", "a", 4), "part a", "", "", "")
        self.refuse(("BadRow", "a", 3), "part a", "shared b", "wants c")
        self.refuse(("BadRow", "a", 600), "part a", *[""] * 599)

    def test_the_first_row_with_words_is_no_part(self):
        for row in ["part", "part a b", "part 7", "part A", "part abcdefghi", "Part a", "part a;", "parta", "a part", "a",
                    "code c", "data d", "shared c", "wants w", "stop", "at l", "word 1", "part part part", "part a-",
                    "part part a", ";"]:
            self.refuse(("BadRow", "", 1), row)
            self.refuse(("BadRow", "", 3), "", "# remark", row, "part a", "code c", "stop")

    def test_rows_ahead_of_the_first_section(self):
        for row in ["part a", "part b", "stop", "small 1", "at l", "word 1", "shared", "wants", "shared a b", "wants a b",
                    "shared 7", "wants 7", "shared A", "wants abcdefghi", "code", "data", "code 7", "data 7", "code c d",
                    "data d e", "Code c", "code C", "share c", "want c", "go l", "hop c", "c", "shared wants a", "code c:"]:
            self.refuse(("BadRow", "a", 2), "part a", row, "code c", "stop")
            self.refuse(("BadRow", "a", 5), "part a", "shared c", "wants w", "", row, "code c", "stop")

    def test_rows_of_a_code(self):
        for row in ["part a", "part b", "shared c", "shared d", "wants w", "wants c", "word 1", "at", "at l m", "at 7",
                    "at L", "at abcdefghi", "stop stop", "small", "small 256", "small x0100", "small a", "small 1 2",
                    "small 01", "small -1", "push", "push 65536", "push x00FF", "push x0ff", "go", "go 7", "go l m",
                    "go L", "ifnot", "hop", "hop 1", "call", "call abcdefghi", "take", "take 0", "put", "put c 1", "Stop",
                    "nothing", "code", "code 7", "code c d", "data", "data D", "back 1", "l", "7", "x0001"]:
            self.refuse(("BadRow", "a", 3), "part a", "code c", row, "stop")
            self.refuse(("BadRow", "a", 5), "part a", "code c", "at l", "stop", row, "stop")

    def test_rows_of_a_data(self):
        for row in ["part a", "shared d", "wants w", "stop", "at l", "small 1", "word", "word 65536", "word x10000",
                    "word a", "word -1", "word 01", "word 1 2", "word x00FF", "Word 1", "words 1", "1", "code", "data",
                    "data 7", "code c d", "word word", "go l", "back"]:
            self.refuse(("BadRow", "a", 3), "part a", "data d", row, "word 1")
            self.refuse(("BadRow", "a", 4), "part a", "data d", "word 1", row)

    def test_a_101st_section(self):
        sections = [row for number in range(100) for row in ["code c%d" % number, "stop"]]
        for row in ["code d", "data d", "code c7", "data c0", "code w"]:
            self.refuse(("BadRow", "a", 203), "part a", "wants w", *sections, row, "stop")
        self.refuse(("BadRow", "a", 203), "part a", "wants w", *sections, "code")

    def test_a_101st_want(self):
        wants = ["wants w%d" % number for number in range(100)]
        for row in ["wants w", "wants w7", "wants", "wants W"]:
            self.refuse(("BadRow", "a", 102), "part a", *wants, row, "code c", "stop")
        self.refuse(None, "part a", *wants, "shared c", "code c", "stop")

    def test_a_33rd_word(self):
        words = ["word 1"] * 32
        self.refuse(("BadRow", "a", 35), "part a", "data d", *words, "word 1")
        self.refuse(("BadRow", "a", 36), "part a", "data d", *words, "", "word 65535", "word 7")
        self.refuse(None, "part a", "data d", *words, "data e", *words)

    def test_a_section_without_an_operation_or_a_word(self):
        self.refuse(("BadRow", "a", 2), "part a", "code c")
        self.refuse(("BadRow", "a", 2), "part a", "data d")
        self.refuse(("BadRow", "a", 3), "part a", "", "code c", "", "code d", "stop")
        self.refuse(("BadRow", "a", 2), "part a", "data d", "data e", "word 1")
        self.refuse(("BadRow", "a", 2), "part a", "data d", "code c", "stop")
        self.refuse(("BadRow", "a", 4), "part a", "code c", "stop", "code d", "# stop", "")
        self.refuse(("BadRow", "a", 2), "part a", "code c", "at l")
        self.refuse(("BadRow", "a", 2), "part a", "code c", "at l", "at m", "code d", "stop")

    def test_a_code_that_ends_otherwise(self):
        for row in ["add", "tell", "small 1", "push 1", "ifnot l", "hop c", "call c", "take c", "put c", "ask", "drop"]:
            self.refuse(("BadRow", "a", 4), "part a", "code c", "at l", row)
            self.refuse(("BadRow", "a", 5), "part a", "code c", "at l", "stop", row, "", "at m", "data d", "word 1")

    def test_a_code_with_more_than_250_bytes(self):
        self.refuse(("BadRow", "a", 253), "part a", "code c", *["add"] * 250, "stop")
        self.refuse(("BadRow", "a", 87), "part a", "code c", *["push 1"] * 83, "add", "stop", "", "code d", "stop")
        self.refuse(("BadRow", "a", 88), "part a", "code c", *["push 1"] * 84, "at l", "stop", "at m")
        self.refuse(None, "part a", "code c", *["push 1"] * 83, "stop", "code d", *["push 1"] * 83, "stop")

    def test_a_label_without_an_operation_behind_it(self):
        self.refuse(("BadRow", "a", 4), "part a", "code c", "stop", "at l")
        self.refuse(("BadRow", "a", 5), "part a", "code c", "stop", "", "at l", "at m", "data d", "word 1")
        self.refuse(("BadRow", "a", 5), "part a", "code c", "at l", "go l", "at m", "at n")
        self.refuse(("BadRow", "a", 4), "part a", "code c", "go l", "at l")

    def test_told_twice(self):
        self.refuse(("Twice", "a", 4, "c"), "part a", "code c", "stop", "code c", "stop")
        self.refuse(("Twice", "a", 4, "c"), "part a", "code c", "stop", "data c", "word 1")
        self.refuse(("Twice", "a", 4, "d"), "part a", "data d", "word 1", "data d", "word 1")
        self.refuse(("Twice", "a", 6, "c"), "part a", "code c", "stop", "code d", "stop", "code c", "stop")
        self.refuse(("Twice", "a", 3, "w"), "part a", "wants w", "wants w", "code c", "stop")
        self.refuse(("Twice", "a", 4, "w"), "part a", "wants w", "wants v", "wants w", "code c", "stop")
        self.refuse(("Twice", "a", 3, "c"), "part a", "shared c", "shared c", "code c", "stop")
        self.refuse(("Twice", "a", 3, "w"), "part a", "wants w", "code w", "stop")
        self.refuse(("Twice", "a", 5, "w"), "part a", "wants w", "code c", "stop", "data w", "word 1")
        self.refuse(("Twice", "a", 5, "l"), "part a", "code c", "at l", "stop", "at l", "stop")
        self.refuse(("Twice", "a", 4, "l"), "part a", "code c", "at l", "at l", "stop")
        self.refuse(("Twice", "a", 6, "m"), "part a", "code c", "at l", "at m", "stop", "at m", "at l", "stop")

    def test_not_told_twice(self):
        self.refuse(None, "part a", "shared a", "code a", "at a", "go a")
        self.refuse(None, "part a", "wants l", "code c", "at l", "go l", "code d", "at l", "go l")

    def test_lacking(self):
        self.refuse(("Lacking", "a", 2, "d"), "part a", "shared d", "code c", "stop")
        self.refuse(("Lacking", "a", 3, "d"), "part a", "shared c", "shared d", "shared e", "code c", "stop")
        self.refuse(("Lacking", "a", 2, "w"), "part a", "shared w", "wants w", "code c", "stop")
        for word in ["go", "ifnot"]:
            for goal in ["l", "c", "w", "d", "m"]:
                self.refuse(("Lacking", "a", 4, goal), "part a", "wants w", "code c", word + " " + goal, "stop", "code d",
                            "at m", "stop")
        for word in ["hop", "call", "take", "put"]:
            for goal in ["l", "a", "v", "cc"]:
                self.refuse(("Lacking", "a", 5, goal), "part a", "wants w", "code c", "at l", word + " " + goal, "stop")
            self.refuse(None, "part a", "wants w", "code c", word + " w", word + " c", word + " d", "stop", "data d",
                        "word 1")

    def test_lacking_in_a_later_section(self):
        self.refuse(("Lacking", "a", 6, "l"), "part a", "code c", "at l", "go l", "code d", "go l")
        self.refuse(("Lacking", "a", 7, "e"), "part a", "data b", "word 1", "code c", "stop", "code d", "call e", "stop")


class WhichComesFirst(unittest.TestCase):
    def refuse(self, expected, *texts):
        self.assertEqual(refusal_of(assembled, rows(*texts)), expected, texts[:12])

    def test_the_text_ahead_of_its_rows(self):
        self.assertEqual(refusal_of(assembled, "nothing\t"), ("BadText",))
        self.assertEqual(refusal_of(assembled, "nothing\n" * 601), ("BadText",))

    def test_rows_in_their_order(self):
        self.refuse(("BadRow", "a", 3), "part a", "code c", "nothing", "at l", "at l")
        self.refuse(("Twice", "a", 4, "l"), "part a", "code c", "at l", "at l", "nothing")
        self.refuse(("Twice", "a", 3, "w"), "part a", "wants w", "wants w", "wants")
        self.refuse(("Twice", "a", 3, "c"), "part a", "shared c", "shared c", "wants", "code c")
        self.refuse(("Twice", "a", 3, "w"), "part a", "wants w", "code w", "nothing")

    def test_a_row_ahead_of_the_end_of_its_section(self):
        self.refuse(("BadRow", "a", 4), "part a", "code c", "add", "nothing", "code d", "stop")
        self.refuse(("BadRow", "a", 3), "part a", "code c", "code", "stop")
        self.refuse(("BadRow", "a", 4), "part a", "code c", "add", "code 7", "stop")
        self.refuse(("BadRow", "a", 4), "part a", "code c", "add", "data d e", "stop")
        self.refuse(("Twice", "a", 5, "l"), "part a", "code c", "add", "at l", "at l", "code d", "stop")
        self.refuse(("BadRow", "a", 254), "part a", "code c", *["add"] * 251, "nothing")

    def test_the_end_of_a_section_ahead_of_the_next_ones_own(self):
        self.refuse(("BadRow", "a", 2), "part a", "code c", "code c", "stop")
        self.refuse(("BadRow", "a", 3), "part a", "wants w", "data c", "data w", "word 1")
        self.refuse(("BadRow", "a", 3), "part a", "code c", "add", "code c", "stop")
        self.refuse(("BadRow", "a", 4), "part a", "code c", "stop", "at l", "data c", "word 1")
        sections = [row for number in range(99) for row in ["code c%d" % number, "stop"]]
        self.refuse(("BadRow", "a", 201), "part a", *sections, "code d", "tell", "code e", "stop")
        self.refuse(("BadRow", "a", 200), "part a", *sections, "data d", "code e", "stop")

    def test_the_ends_of_one_section_in_their_order(self):
        self.refuse(("BadRow", "a", 2), "part a", "code c", "at l", "at m")
        self.refuse(("BadRow", "a", 3), "part a", "code c", "add", "at l")
        self.refuse(("BadRow", "a", 253), "part a", "code c", *["add"] * 251, "at l")
        self.refuse(("BadRow", "a", 253), "part a", "code c", *["add"] * 250, "stop", "at l")

    def test_a_section_that_is_first_to_end_ahead_of_a_later_one(self):
        self.refuse(("BadRow", "a", 3), "part a", "code c", "add", "code d")
        self.refuse(("BadRow", "a", 3), "part a", "code c", "add", "code d", "nothing")

    def test_all_rows_ahead_of_lacking_and_too_far(self):
        self.refuse(("BadRow", "a", 5), "part a", "shared d", "code c", "go l", "nothing")
        self.refuse(("Twice", "a", 6, "c"), "part a", "shared d", "code c", "call e", "stop", "code c", "stop")
        self.refuse(("BadRow", "a", 5), "part a", "shared d", "code c", "call e", "tell")
        self.refuse(("BadRow", "a", 2), "part a", "shared c")
        self.refuse(("BadRow", "a", 6), "part a", "code c", "go l", "code d", "stop", "at l")

    def test_lacking_and_too_far_by_their_rows(self):
        self.refuse(("Lacking", "a", 2, "d"), "part a", "shared d", "code c", "go l", "call e", "stop")
        self.refuse(("Lacking", "a", 3, "l"), "part a", "code c", "go l", "call e", "stop")
        self.refuse(("Lacking", "a", 3, "e"), "part a", "code c", "call e", "go l")
        far = ["push 1"] * 50
        self.refuse(("TooFar", "a", 3, "l"), "part a", "code c", "go l", "call e", *far, "at l", "stop")
        self.refuse(("Lacking", "a", 3, "e"), "part a", "code c", "call e", "go l", *far, "at l", "stop")
        self.refuse(("TooFar", "a", 3, "l"), "part a", "code c", "go l", *far, "at l", "stop", "code d", "go m")
        self.refuse(("Lacking", "a", 3, "m"), "part a", "code d", "go m", "code c", "go l", *far, "at l", "stop")
        self.refuse(("Lacking", "a", 2, "d"), "part a", "shared d", "code c", "go l", *far, "at l", "stop")

    def test_lacking_shared_names_by_their_rows(self):
        self.refuse(("Lacking", "a", 2, "z"), "part a", "shared z", "shared b", "code c", "stop")
        self.refuse(("Lacking", "a", 3, "z"), "part a", "shared c", "shared z", "shared b", "code c", "stop")


if __name__ == "__main__":
    unittest.main()
