"""Operations: their words, bytes and sizes, and how both are read."""

import unittest

from linkyard.ops import Alone, Far, Near, Op, Push, Small, alone_at, op_in, size_at

ALONE = {"add": 16, "sub": 17, "mul": 18, "and": 19, "or": 20, "xor": 21, "not": 22, "left": 23, "right": 24,
         "less": 25, "same": 26, "dup": 27, "drop": 28, "swap": 29, "ask": 30, "tell": 31, "back": 32, "stop": 33}
NEAR = {"go": 64, "ifnot": 65, "hop": 66}
FAR = {"call": 80, "take": 81, "put": 82}
SIZES = {48: 2, 49: 3, 64: 2, 65: 2, 66: 2, 80: 3, 81: 3, 82: 3}
SIZES.update({byte: 1 for byte in range(16, 34)})
NUMBERS = [0, 1, 7, 127, 128, 254, 255]
GREAT = NUMBERS + [256, 257, 4660, 32768, 65280, 65534, 65535]


def all_of(op):
    return (type(op), op.size(), op.word(), op.row(), op.told(), op.way(), op.goal())


def expected_alone(word):
    return (Alone, 1, word, word, [ALONE[word]], "", "")


def expected_small(number):
    return (Small, 2, "small", "small %d" % number, [48, number], "", "")


def expected_push(number):
    return (Push, 3, "push", "push %d" % number, [49, number >> 8, number & 255], "", "")


def expected_near(word, goal):
    return (Near, 2, word, word + " " + goal, [NEAR[word], 0], "near", goal)


def expected_far(word, goal):
    return (Far, 3, word, word + " " + goal, [FAR[word], 0, 0], "far", goal)


class TheOperations(unittest.TestCase):
    def test_there_are_eighteen_alone(self):
        self.assertEqual(sorted(ALONE.values()), list(range(16, 34)))

    def test_each_alone(self):
        for word in ALONE:
            self.assertEqual(all_of(Alone(word)), expected_alone(word))

    def test_small_and_push_at_the_bounds(self):
        for number in NUMBERS:
            self.assertEqual(all_of(Small(number)), expected_small(number))
        for number in GREAT:
            self.assertEqual(all_of(Push(number)), expected_push(number))

    def test_each_near_and_far_one(self):
        for goal in ["a", "main", "abcdefgh", "x00ff", "go"]:
            for word in NEAR:
                self.assertEqual(all_of(Near(word, goal)), expected_near(word, goal))
            for word in FAR:
                self.assertEqual(all_of(Far(word, goal)), expected_far(word, goal))

    def test_all_stand_under_op_and_none_under_another(self):
        kinds = [Alone, Small, Push, Near, Far]
        for kind in kinds:
            self.assertEqual([other for other in kinds + [Op] if issubclass(kind, other)], [kind, Op])

    def test_a_told_list_may_be_changed(self):
        for op in [Alone("add"), Small(7), Push(513), Near("hop", "a"), Far("call", "b")]:
            before = all_of(op)
            before = before[:4] + (list(before[4]),) + before[5:]
            told = op.told()
            told[0] = 99
            told.append(5)
            self.assertEqual(all_of(op), before)


class OpIn(unittest.TestCase):
    def expect(self, words, expected):
        before = list(words)
        self.assertEqual(all_of(op_in(words)), expected, words)
        self.assertEqual(words, before)

    def refuse(self, words):
        before = list(words)
        self.assertIsNone(op_in(words), words)
        self.assertEqual(words, before)

    def test_alone(self):
        for word in ALONE:
            self.expect([word], expected_alone(word))

    def test_numbers_by_figures_and_by_sixteens(self):
        for number in NUMBERS:
            self.expect(["small", "%d" % number], expected_small(number))
            self.expect(["small", "x%04x" % number], expected_small(number))
        for number in GREAT:
            self.expect(["push", "%d" % number], expected_push(number))
            self.expect(["push", "x%04x" % number], expected_push(number))

    def test_goals(self):
        for goal in ["a", "main", "abcdefgh", "a1234567", "stop", "go", "x00ff"]:
            for word in NEAR:
                self.expect([word, goal], expected_near(word, goal))
            for word in FAR:
                self.expect([word, goal], expected_far(word, goal))

    def test_no_words_and_words_that_are_none(self):
        for words in [[], [""], ["", ""], ["nothing"], ["Add"], ["ADD"], ["add "], [" add"], ["a"], ["7"], ["at", "a"],
                      ["word", "7"], ["part", "a"], ["code", "a"], ["data", "a"], ["shared", "a"], ["wants", "a"],
                      ["at"], ["small7"], ["16"], ["smal", "7"], ["add", ""]]:
            self.refuse(words)

    def test_words_left_out_told_twice_or_exchanged(self):
        for word in ALONE:
            for words in [[word, word], [word, "7"], [word, "a"], [word, "a", "b"], ["a", word], ["7", word]]:
                self.refuse(words)
        for word in ["small", "push"]:
            for words in [[word], [word, "7", "7"], ["7", word], [word, word, "7"], ["7"], [word, "7", ""]]:
                self.refuse(words)
        for word in list(NEAR) + list(FAR):
            for words in [[word], [word, "a", "a"], ["a", word], [word, word, "a"], [word, "a", ""]]:
                self.refuse(words)

    def test_numbers_beyond_the_bounds(self):
        for number in ["256", "257", "x0100", "xffff", "65535", "65536", "-1", "00", "007", "x7", "x00F0", "a", "", "+7"]:
            self.refuse(["small", number])
        for number in ["65536", "65537", "99999", "100000", "-1", "00", "007", "x10000", "xfff", "xFFFF", "a", "", "7 "]:
            self.refuse(["push", number])

    def test_goals_that_are_no_names(self):
        for word in list(NEAR) + list(FAR):
            for goal in ["", "7", "7a", "Main", "mAin", "abcdefghi", "a-b", "a_b", "a b", " a", "a ", "#", "a\n"]:
                self.refuse([word, goal])


ROW = [33, 48, 7, 49, 1, 2, 64, 128, 65, 255, 66, 0, 80, 1, 0, 81, 2, 3, 82, 9, 9, 0, 15, 34, 47, 50, 63, 67, 79, 83,
       255, 48]


class InRowsOfBytes(unittest.TestCase):
    def test_size_at_each_byte(self):
        for byte in range(256):
            self.assertEqual(size_at([byte, 1, 2, 3], 0), SIZES.get(byte), byte)
            self.assertEqual(size_at([7, byte, 1, 2], 1), SIZES.get(byte), byte)

    def test_size_at_where_not_all_bytes_are_there(self):
        for byte in SIZES:
            for there in range(1, 5):
                row = [byte, 33, 33, 33][:there]
                self.assertEqual(size_at(row, 0), SIZES[byte] if SIZES[byte] <= there else None, row)
                self.assertEqual(size_at([0, 0] + row, 2), SIZES[byte] if SIZES[byte] <= there else None, row)

    def test_size_at_each_place(self):
        before = list(ROW)
        for place in range(-100, 140):
            expected = None
            if 0 <= place < len(ROW) and ROW[place] in SIZES and place + SIZES[ROW[place]] <= len(ROW):
                expected = SIZES[ROW[place]]
            self.assertEqual(size_at(ROW, place), expected, place)
        self.assertEqual(ROW, before)

    def test_by_hand(self):
        self.assertEqual([size_at([33, 48, 7, 80, 0], place) for place in range(-2, 7)],
                         [None, None, 1, 2, None, None, None, None, None])
        for place in [-100000, -5, -1, 0, 1, 100000]:
            self.assertIsNone(size_at([], place))
            self.assertIsNone(alone_at([], place))

    def test_alone_at_each_place(self):
        words = {byte: word for word, byte in ALONE.items()}
        before = list(ROW)
        for place in range(-100, 140):
            told = alone_at(ROW, place)
            byte = ROW[place] if 0 <= place < len(ROW) else None
            if size_at(ROW, place) is None or byte >= 64:
                self.assertIsNone(told, place)
            elif byte == 48:
                self.assertEqual(all_of(told), expected_small(ROW[place + 1]))
            elif byte == 49:
                self.assertEqual(all_of(told), expected_push(ROW[place + 1] * 256 + ROW[place + 2]))
            else:
                self.assertEqual(all_of(told), expected_alone(words[byte]))
        self.assertEqual(ROW, before)

    def test_alone_at_by_hand(self):
        for word, byte in ALONE.items():
            self.assertEqual(all_of(alone_at([9, byte], 1)), expected_alone(word))
        self.assertEqual(all_of(alone_at([48, 255], 0)), expected_small(255))
        self.assertEqual(all_of(alone_at([49, 255, 254], 0)), expected_push(65534))
        for row in [[48], [49], [49, 1], [64, 0], [65, 0], [66, 0], [80, 0, 0], [81, 0, 0], [82, 0, 0], [0], [34], [255]]:
            self.assertIsNone(alone_at(row, 0), row)

    def test_what_was_told_is_kept_apart_from_the_row(self):
        row = [49, 1, 2]
        op = alone_at(row, 0)
        row[1] = 77
        self.assertEqual(op.row(), "push 258")


if __name__ == "__main__":
    unittest.main()
