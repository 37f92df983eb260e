"""Images read back to the rows of one part."""

import unittest

from helping import chance_program, image_fields, rows
from linkyard.assembling import assembled
from linkyard.backing import rows_back
from linkyard.images import image_bytes, image_in
from linkyard.linking import linked
from linkyard.machine import run


def image_of(*texts):
    return linked([assembled(text) for text in texts])


ALONE = "add sub mul and or xor not left right less same dup drop swap ask tell back stop".split()


class ReadBack(unittest.TestCase):
    def same(self, image):
        before = image_bytes(image)
        text = rows_back(image)
        self.assertFalse(text.endswith("\n"))
        self.assertEqual(image_bytes(image), before)
        again = image_of(text)
        self.assertEqual(image_bytes(again), before)
        self.assertEqual(image_fields(again), image_fields(image))
        self.assertEqual(rows_back(again), text)
        self.assertEqual(rows_back(image_in(before)), text)
        return text

    def test_the_smallest(self):
        self.assertEqual(self.same(image_of(rows("part a", "shared main", "code main", "stop"))),
                         rows("part back", "shared main", "code main", "stop"))

    def test_one_part(self):
        text = rows("part a # remark", "shared main", "shared d", "data d", "word x0010", "word 65535", "code c", "back",
                    "code main", "at first", "at second", "call c", "small x00ff", "push 258", "take d", "ifnot out",
                    "put d", "go second", "at out", "hop main", "at unused", "hop c", "go first")
        self.assertEqual(self.same(image_of(text)),
                         rows("part back", "shared main", "code c0", "back", "code main", "at l0", "call c0", "small 255",
                              "push 258", "take d2", "ifnot l1", "put d2", "go l0", "at l1", "hop main", "hop c0",
                              "go l0", "data d2", "word 16", "word 65535"))

    def test_several_parts(self):
        one = rows("part b", "shared main", "wants far", "wants tab", "code own", "small 1", "back", "code main", "call own",
                   "call far", "take tab", "stop", "data d", "word 1")
        two = rows("part a", "shared far", "wants main", "code far", "hop main", "stop")
        three = rows("part c", "shared tab", "code own", "hop own", "stop", "data tab", "word 5", "word 6", "data more",
                     "word 7")
        self.assertEqual(self.same(image_of(one, two, three)),
                         rows("part back", "shared main", "code c0", "hop main", "stop", "code c1", "small 1", "back",
                              "code main", "call c1", "call c0", "take d5", "stop", "code c3", "hop c3", "stop", "data d4",
                              "word 1", "data d5", "word 5", "word 6", "data d6", "word 7"))

    def test_every_operation(self):
        text = rows("part a", "shared main", "code main", *ALONE, "small 0", "small 255", "push 0", "push 65535", "hop main",
                    "call main", "take d", "put d", "at l", "ifnot l", "go l", "data d", "word 0")
        self.assertEqual(self.same(image_of(text)),
                         rows("part back", "shared main", "code main", *ALONE, "small 0", "small 255", "push 0",
                              "push 65535", "hop main", "call main", "take d1", "put d1", "at l0", "ifnot l0", "go l0",
                              "data d1", "word 0"))

    def test_labels_by_their_places_each_once(self):
        text = rows("part a", "shared main", "code c", "at z", "go z", "code main", "go c", "at b", "ifnot b", "ifnot a",
                    "go a", "at c", "ifnot b", "go c", "at a", "stop")
        self.assertEqual(self.same(image_of(text)),
                         rows("part back", "shared main", "code c0", "at l0", "go l0", "code main", "go l1", "at l0",
                              "ifnot l0", "ifnot l2", "go l2", "at l1", "ifnot l0", "go l1", "at l2", "stop"))

    def test_many_labels(self):
        ops = [row for number in range(12) for row in ["at z%d" % (11 - number), "ifnot z%d" % (11 - number)]]
        text = rows("part a", "shared main", "code main", *ops, "stop")
        expected = [row for number in range(12) for row in ["at l%d" % number, "ifnot l%d" % number]]
        self.assertEqual(self.same(image_of(text)), rows("part back", "shared main", "code main", *expected, "stop"))

    def test_far_hops_and_far_places(self):
        full = ["push 1"] * 40 + ["add", "add"]
        text = rows("part a", "shared main", "code main", "hop z", "stop", "code c", *full, "stop", "code z", "hop main",
                    "call d", "stop", "code y", *["push 1"] * 83, "stop", "code d", "hop d", "back")
        expected = text.replace("part a", "part back").replace("code c", "code c1").replace("code z", "code c2")
        expected = expected.replace("hop z", "hop c2").replace("call d", "call c4").replace("code y", "code c3")
        expected = expected.replace("code d", "code c4").replace("hop d", "hop c4")
        self.assertEqual(self.same(image_of(text)), expected)

    def test_100_sections_and_600_rows(self):
        codes = [row for number in range(49) for row in ["code c%d" % number, "call main", "hop c%d" % number, "tell",
                                                         "stop"]]
        data = [row for number in range(50) for row in ["data t%d" % number] + ["word %d" % (number * 999)] * 4]
        image = image_of(rows("part a", "shared main", *codes, "code main", "call c48", "take t49", "stop", *data))
        self.assertEqual(len(image.sections), 100)
        text = self.same(image)
        self.assertIn("\ncode main\ncall c48\ntake d99\nstop\ndata d50\nword 0\n", text)
        ops = ["code main", *["add"] * 249, "stop", "code c", *["add"] * 249, "stop", "code d", *["add"] * 94, "stop"]
        text = self.same(image_of(rows("part a", "shared main", *ops)))
        self.assertEqual(len(text.split("\n")), 600)

    def test_many_programs_run_the_same(self):
        for seed in range(2000, 2200):
            texts, inputs = chance_program(seed)
            image = image_of(*texts)
            text = self.same(image)
            self.assertEqual(run(image_of(text), 99, inputs, 200), run(image, 0, inputs, 200))


if __name__ == "__main__":
    unittest.main()
