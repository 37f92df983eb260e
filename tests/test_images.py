"""Images as bytes, and images loaded at a base."""

import unittest

from helping import NO_LISTS, NO_NUMBERS, image_fields, refusal_of, rows
from linkyard.assembling import assembled
from linkyard.checks import sealed
from linkyard.images import image_bytes, image_in
from linkyard.layout import Image
from linkyard.linking import linked
from linkyard.loading import loaded


def two(number):
    return [number >> 8, number & 255]


def inner(main, sections, body, far, mark=(105, 1), counts=(None, None)):
    """An image as it is written, without its check; counts stand in the place of the right ones."""
    row = list(mark) + two(main) + two(len(sections) if counts[0] is None else counts[0])
    for kind, size in sections:
        row += [kind] + two(size)
    row += list(body) + two(len(far) if counts[1] is None else counts[1])
    for place in far:
        row += two(place)
    return row


def written(*things, **more):
    return sealed(inner(*things, **more))


def sample():
    text = rows("part a", "shared main", "data d", "word 5", "code c", "back", "code main", "call c", "take d", "hop main",
                "stop")
    return linked([assembled(text)])


SAMPLE_BYTES = [105, 1, 0, 1, 0, 3, 0, 0, 1, 0, 0, 9, 1, 0, 4,
                32, 80, 0, 0, 81, 0, 10, 66, 248, 33, 0, 1, 0, 5,
                0, 2, 0, 2, 0, 5]


class Written(unittest.TestCase):
    def test_byte_by_byte(self):
        self.assertEqual(image_bytes(sample()), sealed(SAMPLE_BYTES))
        self.assertEqual(image_fields(image_in(sealed(SAMPLE_BYTES))), image_fields(sample()))

    def test_smallest_and_greatest(self):
        small = Image(0, [("code", 1)], [33], [])
        self.assertEqual(image_bytes(small), sealed([105, 1, 0, 0, 0, 1, 0, 0, 1, 33, 0, 0]))
        great = Image(258, [("code", 258), ("code", 742), ("data", 7000)], [7] * 8000, list(range(0, 1000, 2)))
        expected = sealed([105, 1, 1, 2, 0, 3, 0, 1, 2, 0, 2, 230, 1, 27, 88] + [7] * 8000 + [1, 244]
                          + [byte for place in range(0, 1000, 2) for byte in two(place)])
        self.assertTrue(image_bytes(great) == expected)
        self.assertTrue(image_fields(image_in(expected)) == image_fields(great))

    def test_read_again(self):
        for image in [sample(), Image(1, [("code", 1), ("code", 2), ("data", 3)], [1, 2, 3, 4, 5, 255], [1]),
                      Image(0, [("code", 4)], [0, 0, 255, 255], [0, 2])]:
            row = image_bytes(image)
            before = list(row)
            read = image_in(row)
            self.assertEqual(image_fields(read), image_fields(image))
            self.assertEqual({type(section) for section in read.sections}, {tuple})
            self.assertEqual(row, before)
            self.assertEqual(image_bytes(read), row)

    def test_what_was_handed_in_and_told_may_be_changed(self):
        image = sample()
        row = image_bytes(image)
        row[0] = 77
        row.append(1)
        self.assertEqual(image_bytes(image), sealed(SAMPLE_BYTES))
        handed = sealed(SAMPLE_BYTES)
        read = image_in(handed)
        for place in range(len(handed)):
            handed[place] = 0
        self.assertEqual(image_fields(read), image_fields(sample()))
        read.body[0] = 99
        read.far.append(9)
        read.sections.append(("code", 1))
        self.assertEqual(image_fields(image_in(sealed(SAMPLE_BYTES))), image_fields(sample()))


class Refused(unittest.TestCase):
    def refuse(self, row, word="BadBytes"):
        before = list(row)
        self.assertEqual(refusal_of(image_in, row), (word,), row[:40])
        self.assertEqual(row, before)

    def accept(self, row):
        self.assertIsNone(refusal_of(image_in, row), row[:40])

    def test_what_is_no_row_of_bytes(self):
        for thing in NO_LISTS + [None]:
            self.assertEqual(refusal_of(image_in, thing), ("BadBytes",), repr(thing))
        self.refuse([])
        for byte in [0, 105, 255]:
            self.refuse([byte])
        good = sealed(SAMPLE_BYTES)
        for place in range(len(good)):
            for wrong in [True, False, None, -1, 256, "7", 7.0, [7]]:
                self.refuse(good[:place] + [wrong] + good[place + 1:])

    def test_another_check(self):
        good = sealed(SAMPLE_BYTES)
        for place in [len(good) - 2, len(good) - 1]:
            for byte in range(256):
                if byte != good[place]:
                    self.refuse(good[:place] + [byte] + good[place + 1:], "BadCheck")
        self.refuse([0, 0], "BadCheck")
        self.refuse(SAMPLE_BYTES, "BadCheck")
        self.refuse([109, 1] + good[2:], "BadCheck")

    def test_each_bit_turned(self):
        good = sealed(SAMPLE_BYTES)
        for place in range(len(good)):
            for bit in range(8):
                turned = list(good)
                turned[place] ^= 1 << bit
                self.assertEqual(refusal_of(image_in, turned), ("BadCheck",), (place, bit))

    def test_another_mark(self):
        for mark in [(105, 0), (105, 2), (109, 1), (104, 1), (1, 105), (0, 0), (105,), ()]:
            self.refuse(written(0, [(0, 1)], [33], [], mark=mark))
        self.accept(written(0, [(0, 1)], [33], []))

    def test_bytes_short_and_more(self):
        for size in range(len(SAMPLE_BYTES)):
            self.refuse(sealed(SAMPLE_BYTES[:size]))
        for byte in [0, 1, 33, 255]:
            self.refuse(sealed(SAMPLE_BYTES + [byte]))
            self.refuse(sealed([byte] + SAMPLE_BYTES))
        self.refuse(sealed([]))

    def test_other_counts_than_there_are(self):
        for counts in [(0, None), (1, None), (2, None), (4, None), (256, None), (65535, None), (None, 0), (None, 1),
                       (None, 3), (None, 256), (None, 65535)]:
            self.refuse(written(0, [(0, 3), (0, 3), (1, 4)], [9] * 10, [1, 4], counts=counts))
        self.accept(written(0, [(0, 3), (0, 3), (1, 4)], [9] * 10, [1, 4]))

    def test_kinds_that_are_none(self):
        for kind in range(2, 256):
            self.refuse(written(0, [(0, 1), (kind, 4)], [33, 0, 1, 0, 0], []))
        self.accept(written(0, [(0, 1), (1, 4)], [33, 0, 1, 0, 0], []))

    def test_a_size_of_nought(self):
        self.refuse(written(0, [(0, 0)], [], []))
        self.refuse(written(0, [(0, 1), (0, 0)], [33], []))
        self.refuse(written(0, [(0, 0), (0, 1)], [33], []))
        self.refuse(written(0, [(0, 1), (1, 0)], [33], []))
        self.refuse(written(0, [(0, 1), (1, 0), (1, 4)], [33, 0, 1, 0, 0], []))

    def test_a_code_behind_data(self):
        self.refuse(written(0, [(0, 1), (1, 4), (0, 1)], [33, 0, 1, 0, 0, 33], []))
        self.refuse(written(4, [(1, 4), (0, 1)], [0, 1, 0, 0, 33], []))
        self.refuse(written(0, [(1, 4), (0, 1)], [0, 1, 0, 0, 33], []))
        self.accept(written(0, [(0, 1), (0, 1), (1, 4), (1, 4)], [33, 33] + [0, 1, 0, 0] * 2, []))

    def test_sizes_of_8000_and_8001(self):
        self.accept(written(0, [(0, 8000)], [33] * 8000, []))
        self.accept(written(0, [(0, 4000), (1, 4000)], [33] * 8000, []))
        self.accept(written(7999, [(0, 1)] * 8000, [33] * 8000, []))
        self.refuse(written(0, [(0, 8001)], [33] * 8001, []))
        self.refuse(written(0, [(0, 4000), (1, 4001)], [33] * 8001, []))
        self.refuse(written(0, [(0, 1)] * 8001, [33] * 8001, []))

    def test_sizes_that_do_not_come_to_the_bytes(self):
        for size in [1, 2, 4, 5, 259, 65535]:
            self.refuse(written(0, [(0, size)], [33, 33, 33], []))
        self.refuse(written(0, [(0, 3), (1, 3)], [33] * 3 + [0, 1, 0, 0], []))
        self.refuse(written(0, [(0, 3), (1, 5)], [33] * 3 + [0, 1, 0, 0], []))
        self.accept(written(0, [(0, 3), (1, 4)], [33] * 3 + [0, 1, 0, 0], []))

    def test_main_at_no_codes_beginning(self):
        sections, body = [(0, 3), (0, 1), (0, 2), (1, 4), (1, 4)], [9] * 14
        for main in range(20):
            if main in [0, 3, 4]:
                self.accept(written(main, sections, body, []))
            else:
                self.refuse(written(main, sections, body, []))
        self.refuse(written(256, sections, body, []))
        self.refuse(written(65535, sections, body, []))
        self.refuse(written(0, [(1, 4)], [0, 1, 0, 0], []))
        self.refuse(written(0, [], [], []))

    def test_far_places(self):
        sections, body = [(0, 3), (0, 5), (1, 4)], [9] * 12
        for far in [[], [0], [6], [0, 2], [1, 3, 5], [0, 2, 4, 6], [2], [1, 6]]:
            self.accept(written(0, sections, body, far))
        for far in [[7], [8], [11], [12], [65535], [0, 0], [0, 1], [2, 0], [3, 1], [1, 2], [0, 2, 3], [6, 6], [5, 6],
                    [0, 7], [0, 2, 4, 6, 8], [4, 2, 6], [6, 4]]:
            self.refuse(written(0, sections, body, far))
        self.refuse(written(0, [(0, 1)], [33], [0]))
        self.accept(written(0, [(0, 2)], [33, 33], [0]))


def moved(image, base):
    """The image's bytes with the base added at each far place, reckoned as one number."""
    body = list(image.body)
    for place in image.far:
        body[place:place + 2] = list((int.from_bytes(bytes(body[place:place + 2]), "big") + base).to_bytes(2, "big"))
    return body


class Loaded(unittest.TestCase):
    def test_by_hand(self):
        body = [32, 80, 0, 0, 81, 0, 10, 66, 248, 33, 0, 1, 0, 5]
        self.assertEqual(loaded(sample()), body)
        self.assertEqual(loaded(sample(), 0), body)
        self.assertEqual(loaded(sample(), 1), [32, 80, 0, 1, 81, 0, 11, 66, 248, 33, 0, 1, 0, 5])
        self.assertEqual(loaded(sample(), 250), [32, 80, 0, 250, 81, 1, 4, 66, 248, 33, 0, 1, 0, 5])
        self.assertEqual(loaded(sample(), base=4660), [32, 80, 18, 52, 81, 18, 62, 66, 248, 33, 0, 1, 0, 5])

    def test_the_last_base_and_one_beyond(self):
        for image in [sample(), Image(0, [("code", 1)], [33], []), Image(0, [("code", 8000)], [33] * 8000, [])]:
            last = 65536 - len(image.body)
            self.assertTrue(loaded(image, last) == moved(image, last))
            for base in [last + 1, last + 2, 65536, 70000, 10 ** 30]:
                self.assertEqual(refusal_of(loaded, image, base), ("BadBase",), base)
        self.assertEqual(loaded(Image(0, [("code", 1)], [33], []), 65535), [33])
        self.assertEqual(loaded(sample(), 65522)[:7], [32, 80, 255, 242, 81, 255, 252])

    def test_many_bases(self):
        for base in list(range(0, 600)) + list(range(600, 65523, 997)):
            self.assertEqual(loaded(sample(), base), moved(sample(), base))

    def test_far_words_of_any_kind(self):
        image = Image(0, [("code", 6), ("data", 4)], [255, 255, 0, 0, 1, 255, 9, 9, 9, 9], [0, 2, 4])
        self.assertEqual(loaded(image, 0), image.body)
        image = Image(0, [("code", 6), ("data", 4)], [255, 254, 0, 0, 1, 255, 9, 9, 9, 9], [0, 2, 4])
        self.assertEqual(loaded(image, 1), [255, 255, 0, 1, 2, 0, 9, 9, 9, 9])

    def test_what_is_no_base(self):
        for base in NO_NUMBERS + [-1, -65536, -10 ** 30]:
            self.assertEqual(refusal_of(loaded, sample(), base), ("BadBase",), repr(base))

    def test_the_image_stays_and_each_list_is_new(self):
        image = sample()
        told = loaded(image, 300)
        told[0] = 99
        told.append(1)
        self.assertEqual(image_fields(image), image_fields(sample()))
        self.assertEqual(loaded(image, 300), moved(sample(), 300))
        plain = loaded(image)
        plain[0] = 99
        self.assertEqual(image_fields(image), image_fields(sample()))


if __name__ == "__main__":
    unittest.main()
