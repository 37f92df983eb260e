"""The check of a row of bytes, and rows that carry it."""

import unittest

from linkyard.checks import check_of, opened, sealed
from linkyard.errors import BadBytes, BadCheck

ROWS = [[], [0], [1], [128], [255], [0, 0], [0, 1], [255, 255], [1, 2, 3], [105, 1, 0, 0], [0] * 20, [255] * 20,
        list(range(256)), [(place * 91 + 13) % 256 for place in range(700)]]


def check_by_long_division(row):
    """All bits as one long row, divided by 1 and the sixteen bits of 4129, without any word that turns."""
    bits = [int(bit) for byte in row for bit in format(byte, "08b")] + [0] * 16
    for place in range(16):
        bits[place] ^= 1
    divisor = [int(bit) for bit in format(65536 + 4129, "017b")]
    for start in range(len(bits) - 16):
        if bits[start]:
            for offset in range(17):
                bits[start + offset] ^= divisor[offset]
    return int("".join([str(bit) for bit in bits[-16:]]), 2)


class CheckOf(unittest.TestCase):
    def test_of_the_empty_row(self):
        self.assertEqual(check_of([]), 65535)

    def test_reckoned_by_hand(self):
        # 255 clears the highest eight bits of 65535; then ones come up from the lowest eight, and none goes out.
        self.assertEqual(check_of([255]), 65280)
        # Once more the highest eight are cleared, and nothing is left to go left.
        self.assertEqual(check_of([255, 255]), 0)
        self.assertEqual(check_of([255, 255, 0, 0, 0]), 0)
        # From 0 on a last bit goes out at the eighth turn alone, and leaves 4129.
        self.assertEqual(check_of([255, 255, 1]), 4129)

    def test_of_the_text_that_such_checks_are_told_by(self):
        self.assertEqual(check_of([ord(sign) for sign in "123456789"]), 10673)

    def test_bit_by_bit(self):
        for row in ROWS + [[byte] for byte in range(256)] + [[7, byte, 9] for byte in range(256)]:
            self.assertEqual(check_of(row), check_by_long_division(row), row[:5])

    def test_the_row_stays_as_it_was(self):
        row = [1, 2, 3]
        self.assertEqual(check_of(row), check_of(row))
        self.assertEqual(row, [1, 2, 3])


class Sealed(unittest.TestCase):
    def test_the_highest_byte_of_the_check_stands_first(self):
        self.assertEqual(sealed([]), [255, 255])
        self.assertEqual(sealed([255]), [255, 255, 0])
        self.assertEqual(sealed([255, 255, 1]), [255, 255, 1, 16, 33])

    def test_a_new_list(self):
        for row in ROWS:
            before = list(row)
            told = sealed(row)
            self.assertEqual(told[:-2], before)
            self.assertEqual(told[-2] * 256 + told[-1], check_by_long_division(before))
            again = list(told)
            told.append(5)
            told[0] = 99
            self.assertEqual(row, before)
            self.assertEqual(sealed(row), again)


class Opened(unittest.TestCase):
    def refuse(self, refusal, row):
        with self.assertRaises(refusal, msg=repr(row)) as taken:
            opened(row)
        self.assertIs(type(taken.exception), refusal)

    def test_what_was_sealed_in_a_new_list(self):
        for row in ROWS:
            handed = sealed(row)
            before = list(handed)
            told = opened(handed)
            self.assertEqual(told, row)
            told.append(5)
            self.assertEqual(handed, before)
            self.assertEqual(opened(handed), row)

    def test_what_is_no_row_of_bytes(self):
        for thing in [None, True, False, 0, "", "ff ff", b"\xff\xff", bytearray(b"\xff\xff"), (), (255, 255), {},
                      {255: 255}, range(2), 1.5, object()]:
            self.refuse(BadBytes, thing)

    def test_fewer_than_two(self):
        self.refuse(BadBytes, [])
        for byte in range(256):
            self.refuse(BadBytes, [byte])

    def test_one_that_is_no_byte_at_any_place_ahead_of_the_check(self):
        for wrong in [True, False, None, -1, 256, 65535, "", "1", 1.0, [], [1], (1,), b"\x01"]:
            for size in [0, 1, 4]:
                for place in range(size + 2):
                    row = sealed([0] * size)
                    row[place] = wrong
                    self.refuse(BadBytes, row)
            self.refuse(BadBytes, [wrong])
        # True and False in the place of the 1 and the 0 that were sealed are no bytes either.
        self.refuse(BadBytes, [True] + sealed([1])[1:])
        self.refuse(BadBytes, [False] + sealed([0])[1:])

    def test_another_check(self):
        self.refuse(BadCheck, [0, 0])
        self.refuse(BadCheck, [1, 2, 3])
        self.refuse(BadCheck, [255, 0, 255])
        for row in [[], [7], [1, 2, 3]]:
            good = check_of(row)
            for check in list(range(0, 65536, 251)) + [good - 1, good + 1, good ^ 65535, good ^ 256]:
                if check != good and 0 <= check <= 65535:
                    self.refuse(BadCheck, row + [check // 256, check % 256])

    def test_one_bit_turned(self):
        for row in ROWS[:12]:
            good = sealed(row)
            for place in range(len(good)):
                for bit in range(8):
                    turned = list(good)
                    turned[place] ^= 1 << bit
                    self.refuse(BadCheck, turned)

    def test_one_byte_another_one(self):
        for row in [[], [0], [1, 2, 3], [255] * 6]:
            good = sealed(row)
            for place in range(len(good)):
                for byte in range(256):
                    if byte != good[place]:
                        self.refuse(BadCheck, good[:place] + [byte] + good[place + 1:])

    def test_two_unlike_neighbours_exchanged(self):
        for row in ROWS[:13]:
            good = sealed(row)
            for place in range(len(good) - 1):
                if good[place] != good[place + 1]:
                    pair = [good[place + 1], good[place]]
                    self.refuse(BadCheck, good[:place] + pair + good[place + 2:])

    def test_cut_or_made_longer(self):
        good = sealed([1, 2, 3])
        self.refuse(BadCheck, good[:-1])
        self.refuse(BadCheck, good[1:])
        self.refuse(BadCheck, good + [1])

    def test_what_is_refused_stays_as_it_was(self):
        for row in [[1, 2, 3], [1, True, 3], [9]]:
            before = list(row)
            with self.assertRaises((BadBytes, BadCheck)):
                opened(row)
            self.assertEqual(row, before)
            self.assertEqual([type(thing) for thing in row], [type(thing) for thing in before])


if __name__ == "__main__":
    unittest.main()
