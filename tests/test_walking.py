"""Texts run by their rows alone, against runs of the image that they are linked to."""

import itertools
import unittest

from helping import NO_LISTS, NO_NUMBERS, NO_TEXTS, chance_program, plain_run, refusal_of, rows
from linkyard.assembling import assembled
from linkyard.linking import linked
from linkyard.machine import run
from linkyard.walking import walked


def linked_run(texts, base=0, inputs=None, most=1000):
    return run(linked([assembled(text) for text in texts]), base, inputs, most)


def main_of(*ops, more=()):
    return rows("part a", "shared main", "code main", *ops, *more)


DATA = ("data d", "word 3", "word 4")
EVERY_END = [
    (main_of("small 7", "tell", "stop"), "stop"), (main_of("small 7", "back"), "stop"), (main_of("add", "stop"), "empty"),
    (main_of("small 1", "swap", "stop"), "empty"), (main_of("small 9", "put d", "stop", more=DATA), "empty"),
    (main_of("at l", "small 1", "go l"), "full"), (main_of("small 1", "at l", "dup", "go l"), "full"),
    (main_of("at l", "ask", "tell", "go l"), "none"), (main_of("small 2", "take d", "stop", more=DATA), "beyond"),
    (main_of("small 2", "small 1", "put d", "stop", more=DATA), "beyond"), (main_of("call main", "stop"), "deep"),
    (main_of("hop main", "stop"), "deep"), (main_of("hop c", "stop", more=("code c", "call main", "stop")), "deep"),
    (main_of("hop c", "stop", more=("code c", "back")), "stop"), (main_of("at l", "go l"), "dry"),
    (main_of("at l", "hop c", "go l", more=("code c", "back")), "dry")]


class TheSameAsRun(unittest.TestCase):
    def test_every_way_to_end(self):
        for text, end in EVERY_END:
            for inputs in [None, [], [5], [5, 0, 65535]]:
                for most in [0, 1, 2, 3, 50, 1000, 5000]:
                    told = walked([text], inputs, most)
                    self.assertEqual(told, linked_run([text], 7, inputs, most), text)
                    self.assertEqual(told, plain_run([text], inputs or [], most), text)
            self.assertEqual(walked([text])[1], end, text)

    def test_by_hand(self):
        self.assertEqual(walked([main_of("small 7", "tell", "stop")]), ([7], "stop", 3))
        self.assertEqual(walked([main_of("small 7", "tell", "stop")], None, 2), ([7], "dry", 2))
        self.assertEqual(walked([main_of("ask", "tell", "ask", "stop")], [9]), ([9], "none", 3))
        self.assertEqual(walked([main_of("at l", "go l")]), ([], "dry", 1000))
        self.assertEqual(walked([main_of("at l", "go l")], most=5000), ([], "dry", 5000))
        self.assertEqual(walked([main_of("ask", "tell", "stop")], inputs=[65535]), ([65535], "stop", 3))

    def test_remarks_numbers_and_labels(self):
        text = rows("# ahead", "part a # its name", "", "shared main", "code main", "at l", "at m", "small x0010 # 16",
                    "push xffff", "add", "dup", "tell", "small 15", "same", "ifnot l", "go n", "at n", "at o", "stop")
        self.assertEqual(walked([text]), ([15], "stop", 10))
        self.assertEqual(walked([text]), linked_run([text]))

    def test_many_programs_in_any_order_at_any_base(self):
        ends = {}
        for seed in range(1000, 1300):
            texts, inputs = chance_program(seed, 1 + seed % 3)
            expected = plain_run(texts, inputs, 250)
            ends[expected[1]] = True
            for order in itertools.permutations(texts):
                self.assertEqual(walked(list(order), inputs, 250), expected, seed)
            self.assertEqual(linked_run(texts, seed, inputs, 250), expected, seed)
        self.assertEqual(sorted(ends), ["beyond", "deep", "dry", "empty", "full", "none", "stop"])

    def test_sections_called_alike_in_several_parts(self):
        one = rows("part a", "shared main", "wants far", "code main", "call own", "call far", "small 0", "take tab", "tell",
                   "stop", "code own", "at l", "small 1", "tell", "back", "data tab", "word 10")
        two = rows("part b", "shared far", "code own", "at l", "small 2", "tell", "back", "code main", "small 99", "tell",
                   "stop", "code far", "call own", "small 0", "take tab", "tell", "small 0", "small 77", "put tab", "back",
                   "data tab", "word 20")
        for order in [[one, two], [two, one]]:
            self.assertEqual(walked(order), ([1, 2, 20, 10], "stop", 20))
            self.assertEqual(walked(order), linked_run(order, 4660))

    def test_data_that_several_parts_put_to(self):
        one = rows("part a", "shared main", "wants add1", "wants sum", "code main", "call add1", "call add1", "small 0",
                   "take sum", "tell", "stop")
        two = rows("part b", "shared add1", "wants sum", "code add1", "small 0", "small 0", "take sum", "small 1", "add",
                   "put sum", "back")
        three = rows("part c", "shared sum", "data sum", "word 40")
        for order in itertools.permutations([one, two, three]):
            self.assertEqual(walked(list(order)), ([42], "stop", 20))
            self.assertEqual(linked_run(order, 60000), ([42], "stop", 20))

    def test_40_texts(self):
        texts = [rows("part p%02d" % number, "shared s%02d" % number, "code s%02d" % number, "small %d" % number, "tell",
                      "back") for number in range(39)]
        names = ["s%02d" % number for number in range(39)]
        texts.append(rows("part p39", "shared main", *["wants " + name for name in names], "code main",
                          *["call " + name for name in names], "stop"))
        self.assertEqual(walked(texts), (list(range(39)), "stop", 39 * 4 + 1))
        self.assertEqual(walked(texts), linked_run(texts))

    def test_hops_wait_through_several_parts(self):
        for count, end in [(15, "stop"), (16, "stop"), (17, "deep")]:
            texts = [rows("part p%02d" % number, "shared s%02d" % number, "wants s%02d" % (number + 1),
                          "code s%02d" % number, "small %d" % number, "tell", "hop s%02d" % (number + 1),
                          "small %d" % (100 + number), "tell", "back") for number in range(count)]
            texts[0] = texts[0].replace("s00", "main")
            texts.append(rows("part p%02d" % count, "shared s%02d" % count, "code s%02d" % count, "back"))
            down = list(range(count))
            up = [100 + number for number in reversed(down)] if end == "stop" else []
            steps = 3 * count + 1 + 3 * count if end == "stop" else 3 * 17
            self.assertEqual(walked(texts), (down + up, end, steps))
            self.assertEqual(linked_run(texts, 700), (down + up, end, steps))

    def test_back_goes_on_behind_a_hop(self):
        text = main_of("hop low", "small 8", "tell", "stop", more=("code low", "small 7", "tell", "back"))
        self.assertEqual(walked([text]), ([7, 8], "stop", 7))
        self.assertEqual(walked([main_of("hop main", "stop")], [1], 36), ([], "deep", 17))
        self.assertEqual(walked([main_of("hop main", "stop")], None, 16), ([], "dry", 16))

    def test_what_is_handed_in_stays_and_what_is_told_is_new(self):
        texts = [main_of("ask", "tell", "small 0", "ask", "put d", "small 0", "take d", "tell", "stop", more=DATA)]
        inputs = [5, 6]
        kept = list(texts)
        told = walked(texts, inputs)
        self.assertIs(type(told), tuple)
        told[0].append(9)
        self.assertEqual(walked(texts, inputs), ([5, 6], "stop", 9))
        self.assertEqual((texts, inputs), (kept, [5, 6]))


class NoRefusalsHere(unittest.TestCase):
    def test_a_hop_out_of_reach(self):
        text = main_of("hop z", "stop", more=["code c", *["push 1"] * 80, "stop", "code z", "small 3", "tell", "stop"])
        self.assertEqual(refusal_of(linked, [assembled(text)]), ("TooFar", "a", 4, "z"))
        self.assertEqual(walked([text]), ([3], "stop", 4))

    def test_more_than_8000_bytes(self):
        full = [row for number in range(6) for row in ["code c%d" % number, *["push 1"] * 83, "stop"]]
        texts = [rows("part p%02d" % number, *full) for number in range(6)]
        texts += [rows("part z", "shared main", "wants last", "code main", "call last", "stop")]
        texts += [rows("part zz", "shared last", "data tab", "word 5", "code last", "small 0", "take tab", "tell", "back")]
        self.assertEqual(refusal_of(linked, [assembled(text) for text in texts]), ("TooGreat",))
        self.assertEqual(walked(texts), ([5], "stop", 6))
        self.assertEqual(walked(texts[::-1]), ([5], "stop", 6))


GOOD = main_of("stop")


class Refusals(unittest.TestCase):
    def refuse(self, expected, texts, *more):
        before = list(texts)
        self.assertEqual(refusal_of(walked, texts, *more), expected)
        self.assertTrue(len(texts) == len(before) and all(one is other for one, other in zip(texts, before)))

    def test_as_assembled(self):
        for thing in NO_TEXTS + ["\n" * 600, "part\ta"]:
            self.refuse(("BadText",), [thing])
            self.refuse(("BadText",), [GOOD, thing])
        self.refuse(("BadRow", "", 1), ["nothing"])
        for text, line in [("", 1), (" ", 1), ("\n", 2)]:
            self.refuse(("BadRow", "", line), [text])
            self.refuse(("BadRow", "", line), [GOOD, text])
        self.refuse(("BadRow", "b", 3), [GOOD, rows("part b", "code c", "nothing")])
        self.refuse(("Twice", "b", 4, "c"), [GOOD, rows("part b", "code c", "stop", "code c", "stop")])
        self.refuse(("Lacking", "b", 3, "l"), [GOOD, rows("part b", "code c", "go l")])
        self.refuse(("TooFar", "b", 3, "l"), [GOOD, rows("part b", "code c", "go l", *["push 1"] * 50, "at l", "stop")])

    def test_text_by_text(self):
        lacking = rows("part b", "code c", "go l")
        self.refuse(("Lacking", "b", 3, "l"), [lacking, "nothing"])
        self.refuse(("BadRow", "", 1), ["nothing", lacking])
        self.refuse(("Lacking", "b", 3, "l"), [GOOD, lacking, None])

    def test_as_linked(self):
        other = rows("part b", "shared x", "code x", "stop")
        self.refuse(("Twice", "a", 1, "a"), [GOOD, GOOD])
        self.refuse(("Twice", "b", 1, "b"), [other, GOOD, other, GOOD.replace("part a", "part c")])
        self.refuse(("Twice", "c", 1, "main"), [GOOD.replace("part a", "part c"), other, GOOD])
        self.refuse(("Lacking", "b", 1, "y"), [GOOD, rows("part b", "wants z", "wants y", "code c", "stop")])
        self.refuse(("NoMain",), [other])
        self.refuse(("NoMain",), [rows("part b", "shared main", "data main", "word 1")])
        self.refuse(("NoMain",), [rows("part b", "code main", "stop")])
        self.refuse(("WrongKind", "a", 5, "main"), [main_of("tell", "take main", "stop")])
        self.refuse(("WrongKind", "a", 4, "d"), [main_of("hop d", "stop", more=DATA)])
        self.refuse(("WrongKind", "b", 4, "x"), [rows("part c", "shared x", "data x", "word 1", "code d", "put d", "stop"),
                                                 rows("part b", "wants x", "code c", "call x", "stop"), GOOD])

    def test_as_linked_in_its_order(self):
        first = rows("part b", "shared main", "wants q", "code main", "take main", "stop")
        self.refuse(("Twice", "b", 1, "b"), [first, first])
        self.refuse(("Twice", "b", 1, "main"), [first, GOOD])
        self.refuse(("Lacking", "b", 1, "q"), [first])
        self.refuse(("NoMain",), [rows("part b", "code main", "take main", "stop")])

    def test_wrong_kinds_stand_where_too_far_does_not(self):
        text = main_of("hop z", "take z", "stop", more=["code c", *["push 1"] * 80, "stop", "code z", "stop"])
        self.assertEqual(refusal_of(linked, [assembled(text)]), ("TooFar", "a", 4, "z"))
        self.refuse(("WrongKind", "a", 5, "z"), [text])

    def test_a_later_text_ahead_of_a_linking_fault(self):
        self.refuse(("BadRow", "", 1), [GOOD, GOOD, "nothing"])
        self.refuse(("BadText",), [main_of("take main", "stop"), None])

    def test_bad_inputs_behind_all_else(self):
        for inputs in NO_LISTS + [[True], [7, None], [65536], [-1], [7] * 101]:
            self.refuse(("BadInput",), [GOOD], inputs)
            self.refuse(("NoMain",), [rows("part b", "code c", "stop")], inputs)
            self.refuse(("WrongKind", "a", 4, "main"), [main_of("take main", "stop")], inputs)
            self.refuse(("BadText",), [GOOD, 7], inputs)
        for most in NO_NUMBERS + [-1, 5001]:
            self.refuse(("BadInput",), [GOOD], None, most)
            self.refuse(("NoMain",), [rows("part b", "code c", "stop")], None, most)
        self.assertEqual(walked([GOOD], [7] * 100, 5000), ([], "stop", 1))
        self.assertEqual(walked([GOOD], None, 0), ([], "dry", 0))


if __name__ == "__main__":
    unittest.main()
