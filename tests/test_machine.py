"""Runs of images: each operation, each way to end, step by step, at any base."""

import itertools
import unittest

from helping import NO_LISTS, NO_NUMBERS, chance_program, image_fields, plain_run, refusal_of, rows
from linkyard.assembling import assembled
from linkyard.images import image_bytes, image_in
from linkyard.linking import linked
from linkyard.machine import Machine, run

WORDS = [0, 1, 2, 3, 7, 15, 16, 17, 255, 256, 32767, 32768, 65534, 65535]
TWO = {"add": lambda a, b: (a + b) % 65536, "sub": lambda a, b: (a - b) % 65536, "mul": lambda a, b: a * b % 65536,
       "and": lambda a, b: a & b, "or": lambda a, b: a | b, "xor": lambda a, b: a ^ b,
       "left": lambda a, b: a * 2 ** b % 65536, "right": lambda a, b: a // 2 ** b,
       "less": lambda a, b: 1 if a < b else 0, "same": lambda a, b: 1 if a == b else 0}


def image_of(*texts):
    return linked([assembled(text) for text in texts])


def main_of(*ops, more=()):
    """An image whose main has these operations."""
    return image_of(rows("part a", "shared main", "code main", *ops, *more))


def pushes(words):
    return ["push %d" % word for word in words]


def one_below_the_other(words):
    """Codes each of which goes to the next one by one of these words; the last one tells 9."""
    told = ["part a", "shared main", "code main"]
    for number, word in enumerate(words):
        told += ["%s c%d" % (word, number), "back", "code c%d" % number]
    return rows(*told, "small 9", "tell", "back")


def state(machine):
    return (machine.stack(), machine.told(), machine.steps(), machine.end())


def at_the_end(image, base=0, inputs=None, most=1000):
    machine = Machine(image, base, inputs, most)
    while machine.step():
        pass
    return state(machine)


class Operations(unittest.TestCase):
    def test_two_words_at_the_bounds(self):
        for word in TWO:
            for a, b in itertools.product(WORDS, WORDS):
                told = at_the_end(main_of("push 9", "push %d" % a, "push %d" % b, word, "stop"))
                self.assertEqual(told, ([9, TWO[word](a, b)], [], 5, "stop"), (word, a, b))

    def test_by_hand(self):
        for a, b, word, answer in [(65535, 1, "add", 0), (65535, 65535, "add", 65534), (0, 1, "sub", 65535),
                                   (5, 3, "sub", 2), (0, 65535, "sub", 1), (65535, 65535, "mul", 1), (256, 256, "mul", 0),
                                   (258, 255, "mul", 254), (12, 10, "and", 8),
                                   (12, 10, "or", 14), (12, 10, "xor", 6), (1, 15, "left", 32768), (1, 16, "left", 0),
                                   (65535, 0, "left", 65535), (65535, 1, "left", 65534), (65535, 65535, "left", 0),
                                   (65535, 15, "right", 1), (65535, 16, "right", 0), (65535, 0, "right", 65535),
                                   (32768, 65535, "right", 0), (3, 4, "less", 1), (4, 3, "less", 0), (4, 4, "less", 0),
                                   (0, 65535, "less", 1), (65535, 0, "less", 0), (7, 7, "same", 1), (7, 8, "same", 0)]:
            self.assertEqual(at_the_end(main_of(*pushes([a, b]), word, "stop"))[0], [answer], (a, b, word))

    def test_left_and_right_by_every_number_of_bits(self):
        for bits in list(range(40)) + [255, 256, 257, 32768, 65535]:
            for word in [1, 43981, 65535]:
                self.assertEqual(at_the_end(main_of(*pushes([word, bits]), "left", "stop"))[0], [(word << bits) & 65535])
                self.assertEqual(at_the_end(main_of(*pushes([word, bits]), "right", "stop"))[0], [word >> bits])

    def test_one_word(self):
        for word in WORDS:
            self.assertEqual(at_the_end(main_of(*pushes([5, word]), "not", "stop")), ([5, 65535 - word], [], 4, "stop"))
            self.assertEqual(at_the_end(main_of(*pushes([5, word]), "dup", "stop")), ([5, word, word], [], 4, "stop"))
            self.assertEqual(at_the_end(main_of(*pushes([5, word]), "drop", "stop")), ([5], [], 4, "stop"))
            self.assertEqual(at_the_end(main_of(*pushes([5, word]), "tell", "stop")), ([5], [word], 4, "stop"))
            self.assertEqual(at_the_end(main_of(*pushes([5, 6, word]), "swap", "stop")), ([5, word, 6], [], 5, "stop"))

    def test_small_and_push(self):
        for number in [0, 1, 127, 128, 255]:
            self.assertEqual(at_the_end(main_of("small %d" % number, "stop"))[0], [number])
        for number in WORDS:
            self.assertEqual(at_the_end(main_of("push %d" % number, "stop"))[0], [number])

    def test_ask_and_tell(self):
        image = main_of("ask", "ask", "tell", "ask", "tell", "tell", "stop")
        self.assertEqual(run(image, 0, [7, 8, 65535]), ([8, 65535, 7], "stop", 7))
        self.assertEqual(run(image, 0, [7, 8, 9, 10]), ([8, 9, 7], "stop", 7))
        self.assertEqual(run(image, 0, [7, 8]), ([8], "none", 4))

    def test_go_and_ifnot(self):
        image = main_of("small 1", "tell", "go l", "small 2", "tell", "at l", "small 3", "tell", "stop")
        self.assertEqual(run(image), ([1, 3], "stop", 6))
        for word, told in [(0, [9]), (1, [5, 9]), (255, [5, 9]), (256, [5, 9]), (65535, [5, 9])]:
            image = main_of("push %d" % word, "ifnot l", "small 5", "tell", "at l", "small 9", "tell", "stop")
            self.assertEqual(run(image)[:2], (told, "stop"), word)
            self.assertEqual(at_the_end(image)[0], [])

    def test_a_loop_back(self):
        image = main_of("small 5", "at l", "dup", "tell", "small 1", "sub", "dup", "ifnot m", "go l", "at m", "stop")
        self.assertEqual(run(image), ([5, 4, 3, 2, 1], "stop", 1 + 5 * 6 + 4 + 1))

    def test_reaches_at_their_bounds(self):
        tell = ["small 3", "tell", "stop"]
        ahead = ["push 1"] * 42 + ["add"]
        self.assertEqual(run(main_of("go l", *ahead, "at l", *tell)), ([3], "stop", 4))
        self.assertEqual(run(main_of("small 0", "ifnot l", *ahead, "at l", *tell)), ([3], "stop", 5))
        back = ["push 1"] * 40 + ["add", "add"]
        self.assertEqual(run(main_of("go s", "at l", *tell, *back, "at s", "go l")), ([3], "stop", 5))
        self.assertEqual(run(main_of("go s", "at l", *tell, *back[2:], "push 1", "add", "at s", "small 0", "ifnot l",
                                     "stop")), ([3], "stop", 6))
        between = ["code c", *["push 1"] * 41, "add", "add", "stop", "code z"]
        self.assertEqual(main_of("hop z", "stop", more=between + tell).body[1], 127)
        self.assertEqual(run(main_of("hop z", "stop", more=between + tell)), ([3], "stop", 4))
        between = ["code y", *tell, "code c", *["push 1"] * 39, *["add"] * 4, "stop", "code z", "hop y", "stop"]
        image = main_of("call z", "stop", more=between)
        self.assertEqual(image.body[-2], 128)
        self.assertEqual(run(image), ([3], "stop", 5))

    def test_hop_call_and_back(self):
        text = rows("part a", "shared main", "code one", "small 1", "tell", "back", "code main", "call one", "small 2",
                    "tell", "call two", "small 3", "tell", "hop one", "small 4", "tell", "stop", "code two", "call one",
                    "hop one", "back")
        self.assertEqual(run(image_of(text)), ([1, 2, 1, 1, 3, 1, 4], "stop", 25))

    def test_back_goes_on_behind_a_hop(self):
        text = rows("part a", "shared main", "code main", "hop low", "small 8", "tell", "stop", "code low", "small 7",
                    "tell", "back")
        for base in [0, 1, 300, 65000]:
            self.assertEqual(run(image_of(text), base), ([7, 8], "stop", 7))
        self.assertEqual(run(image_of(text.replace("hop", "call"))), ([7, 8], "stop", 7))

    def test_back_goes_on_behind_the_one_that_waits_last(self):
        for first, second in itertools.product(["hop", "call"], repeat=2):
            text = rows("part a", "shared main", "code main", first + " low", "small 1", "tell", "back", "code low",
                        second + " deep", "small 2", "tell", "back", "code deep", "small 3", "tell", "back")
            self.assertEqual(run(image_of(text), 4660), ([3, 2, 1], "stop", 11), (first, second))

    def test_a_hop_to_a_code_that_lies_ahead(self):
        text = rows("part a", "shared main", "code low", "small 7", "tell", "back", "code main", "hop low", "hop low",
                    "back")
        self.assertEqual(run(image_of(text), 300), ([7, 7], "stop", 9))

    def test_take_and_put(self):
        data = ("data d", "word 10", "word 20", "word 65535", "data e", "word 7")
        image = main_of("small 2", "take d", "tell", "small 0", "take d", "tell", "small 1", "push 513", "put d", "small 1",
                        "take d", "tell", "small 0", "take e", "tell", "small 0", "take d", "tell", "stop", more=data)
        self.assertEqual(run(image), ([65535, 10, 513, 7, 10], "stop", 19))

    def test_put_takes_the_word_and_below_it_the_place(self):
        data = ("data d", "word 10", "word 20")
        self.assertEqual(at_the_end(main_of("small 9", "small 1", "small 0", "put d", "small 1", "take d", "stop",
                                            more=data)), ([9, 0], [], 7, "stop"))

    def test_each_word_of_a_data_by_its_place(self):
        words = [number * 2000 + 5 for number in range(32)]
        data = ["data b", "word 1", "data d"] + ["word %d" % word for word in words] + ["data e", "word 2"]
        for place in [0, 1, 15, 30, 31]:
            self.assertEqual(run(main_of("small %d" % place, "take d", "tell", "stop", more=data)),
                             ([words[place]], "stop", 4))
            image = main_of("small %d" % place, "push 258", "put d", *[row for number in range(32) for row in
                                                                    ["small %d" % number, "take d", "tell"]], "stop",
                            more=data)
            self.assertEqual(run(image)[0], words[:place] + [258] + words[place + 1:])


NEEDS = {"add": 2, "sub": 2, "mul": 2, "and": 2, "or": 2, "xor": 2, "left": 2, "right": 2, "less": 2, "same": 2, "swap": 2,
         "put d": 2, "not": 1, "dup": 1, "drop": 1, "tell": 1, "take d": 1, "ifnot l": 1}
DATA = ("data d", "word 3", "word 4")


class Ends(unittest.TestCase):
    def test_stop(self):
        self.assertEqual(run(main_of("stop")), ([], "stop", 1))
        self.assertEqual(run(main_of("back")), ([], "stop", 1))
        self.assertEqual(at_the_end(main_of("small 7", "back")), ([7], [], 2, "stop"))
        text = rows("part a", "shared main", "code main", "call c", "back", "code c", "back")
        self.assertEqual(run(image_of(text)), ([], "stop", 3))

    def test_empty(self):
        for op, words in NEEDS.items():
            for there in range(words):
                image = main_of("at l", *pushes([0] * there), op, "stop", more=DATA)
                self.assertEqual(at_the_end(image), ([0] * there, [], there + 1, "empty"), op)
            image = main_of("at l", *pushes([1] * words), op, "stop", more=DATA)
            self.assertEqual(at_the_end(image)[3], "stop", op)

    def test_operations_that_take_nothing_end_nothing(self):
        text = rows("part a", "shared main", "code main", "go l", "at l", "hop b", "stop", "code b", "call c", "stop",
                    "code c", "back")
        self.assertEqual(at_the_end(image_of(text)), ([], [], 5, "stop"))

    def test_full(self):
        words = list(range(100, 132))
        for op in ["small 7", "push 7", "dup", "ask"]:
            self.assertEqual(at_the_end(main_of(*pushes(words), op, "stop"), 0, [5]), (words, [], 33, "full"), op)
            told = at_the_end(main_of(*pushes(words[:31]), op, "stop"), 0, [5])
            self.assertEqual((len(told[0]), told[3]), (32, "stop"), op)

    def test_a_full_stack_that_stays_as_great_is_not_full(self):
        for op in ["swap", "not", "take d", "add", "drop", "tell", "ifnot l", "put d"]:
            image = main_of(*pushes([1] * 32), op, "at l", "stop", more=DATA)
            self.assertEqual(at_the_end(image)[3], "stop", op)
        text = rows("part a", "shared main", "code main", *pushes([1] * 32), "call c", "hop c", "stop", "code c", "back")
        self.assertEqual(at_the_end(image_of(text))[3], "stop")

    def test_full_ahead_of_none(self):
        self.assertEqual(at_the_end(main_of(*pushes([1] * 32), "ask", "stop"))[2:], (33, "full"))

    def test_none(self):
        self.assertEqual(at_the_end(main_of("small 4", "ask", "stop")), ([4], [], 2, "none"))
        self.assertEqual(at_the_end(main_of("ask", "ask", "stop"), 0, [6]), ([6], [], 2, "none"))
        self.assertEqual(at_the_end(main_of("ask", "ask", "stop"), 0, [])[2:], (1, "none"))

    def test_beyond(self):
        for place in [2, 3, 255, 32768, 65535]:
            image = main_of(*pushes([9, place]), "take d", "stop", more=DATA)
            self.assertEqual(at_the_end(image), ([9, place], [], 3, "beyond"))
            image = main_of(*pushes([9, place, 0]), "put d", "stop", more=DATA)
            self.assertEqual(at_the_end(image), ([9, place, 0], [], 4, "beyond"))
        for place in [0, 1]:
            self.assertEqual(at_the_end(main_of(*pushes([place]), "take d", "stop", more=DATA)), ([3 + place], [], 3, "stop"))
            self.assertEqual(at_the_end(main_of(*pushes([place, 60000]), "put d", "stop", more=DATA))[3], "stop")

    def test_beyond_changes_no_data(self):
        image = main_of("small 2", "push 513", "put d", "stop", more=("data d", "word 3", "word 4", "data e", "word 5"))
        machine = Machine(image)
        while machine.step():
            pass
        self.assertEqual(machine.end(), "beyond")
        self.assertEqual(image_fields(image), image_fields(main_of("small 2", "push 513", "put d", "stop", more=(
            "data d", "word 3", "word 4", "data e", "word 5"))))

    def test_empty_ahead_of_beyond(self):
        self.assertEqual(at_the_end(main_of("push 9", "put d", "stop", more=DATA))[2:], (2, "empty"))

    def test_16_calls_that_wait_and_a_seventeenth(self):
        text = rows("part a", "shared main", "code main", "ask", "call c", "small 77", "tell", "stop", "code c", "dup",
                    "ifnot out", "small 1", "sub", "call c", "small 1", "tell", "at out", "back")
        image = image_of(text)
        self.assertEqual(run(image, 0, [15]), ([1] * 15 + [77], "stop", 2 + 5 * 15 + 2 + 1 + 3 * 15 + 3))
        self.assertEqual(at_the_end(image, 0, [16]), ([0], [], 2 + 5 * 16, "deep"))
        self.assertEqual(run(image, 0, [17]), ([], "deep", 2 + 5 * 16))

    def test_hops_wait_as_calls_do(self):
        text = rows("part a", "shared main", "code main", "hop c", "stop", "code c", "call main", "stop")
        for told in [text, text.replace("call", "hop"), text.replace("hop", "call")]:
            self.assertEqual(run(image_of(told)), ([], "deep", 17))
            self.assertEqual(run(image_of(told), 2126, [1], 17), ([], "deep", 17))
            self.assertEqual(run(image_of(told), 0, None, 16), ([], "dry", 16))

    def test_16_of_either_kind_wait_and_a_seventeenth_does_not(self):
        for words in [["hop"] * 16, ["call"] * 16, ["hop", "call"] * 8, ["call"] * 15 + ["hop"], ["hop"] * 15 + ["call"]]:
            self.assertEqual(run(image_of(one_below_the_other(words))), ([9], "stop", 16 + 3 + 16), words)
            for word in ["hop", "call"]:
                self.assertEqual(run(image_of(one_below_the_other(words + [word]))), ([], "deep", 17), (words, word))

    def test_a_hop_that_is_deep_changes_nothing_else(self):
        told = at_the_end(main_of("small 5", "hop main", "stop"))
        self.assertEqual(told, ([5] * 17, [], 34, "deep"))

    def test_those_that_came_back_do_not_wait(self):
        for word in ["call", "hop"]:
            text = rows("part a", "shared main", "code main", *[word + " c"] * 40, "stop", "code c", "back")
            self.assertEqual(run(image_of(text)), ([], "stop", 81), word)

    def test_dry(self):
        image = main_of("small 1", "tell", "small 2", "tell", "stop")
        expected = [([], 0), ([], 1), ([1], 2), ([1], 3), ([1, 2], 4)]
        for most in range(5):
            self.assertEqual(run(image, 0, None, most), (expected[most][0], "dry", expected[most][1]))
        for most in [5, 6, 1000, 5000]:
            self.assertEqual(run(image, 0, None, most), ([1, 2], "stop", 5))

    def test_dry_is_looked_at_ahead_of_an_operation(self):
        for ops, end in [(["drop"], "empty"), (["ask"], "none"), (["back"], "stop"), (["stop"], "stop")]:
            image = main_of(*ops, "stop")
            self.assertEqual(run(image, 0, None, 0), ([], "dry", 0))
            self.assertEqual(run(image, 0, None, 1), ([], end, 1))

    def test_most_that_is_left_out_and_5000(self):
        image = main_of("at l", "go l")
        self.assertEqual(run(image), ([], "dry", 1000))
        self.assertEqual(run(image, most=5000), ([], "dry", 5000))
        machine = Machine(image)
        for turn in range(1000):
            self.assertIs(machine.step(), True)
            self.assertIsNone(machine.end())
        self.assertIs(machine.step(), True)
        self.assertEqual((machine.end(), machine.steps(), machine.step()), ("dry", 1000, False))


class StepByStep(unittest.TestCase):
    def test_each_step(self):
        text = rows("part a", "shared main", "code main", "ask", "call c", "tell", "small 0", "take d", "stop", "code c",
                    "dup", "add", "back", "data d", "word 9")
        machine = Machine(image_of(text), 100, [21])
        expected = [([], [], 0, None), ([21], [], 1, None), ([21], [], 2, None), ([21, 21], [], 3, None),
                    ([42], [], 4, None), ([42], [], 5, None), ([], [42], 6, None), ([0], [42], 7, None),
                    ([9], [42], 8, None), ([9], [42], 9, "stop")]
        self.assertEqual(state(machine), expected[0])
        for told in expected[1:]:
            self.assertIs(machine.step(), True)
            self.assertEqual(state(machine), told)
        for turn in range(5):
            self.assertIs(machine.step(), False)
            self.assertEqual(state(machine), expected[-1])

    def test_ending_dry_is_a_step_that_does_nothing(self):
        machine = Machine(main_of("small 1", "small 2", "stop"), 0, None, 1)
        self.assertIs(machine.step(), True)
        self.assertEqual(state(machine), ([1], [], 1, None))
        self.assertIs(machine.step(), True)
        self.assertEqual(state(machine), ([1], [], 1, "dry"))
        for turn in range(3):
            self.assertIs(machine.step(), False)
            self.assertEqual(state(machine), ([1], [], 1, "dry"))
        machine = Machine(main_of("stop"), 0, None, 0)
        self.assertEqual((machine.step(), state(machine), machine.step()), (True, ([], [], 0, "dry"), False))

    def test_told_lists_are_new(self):
        machine = Machine(main_of("small 1", "dup", "tell", "small 2", "stop"))
        for turn in range(3):
            machine.step()
        stack, told = machine.stack(), machine.told()
        stack.append(9)
        told.append(9)
        self.assertEqual(state(machine), ([1], [1], 3, None))
        kept = machine.stack(), machine.told()
        machine.step()
        self.assertEqual(kept, ([1], [1]))
        self.assertEqual(machine.stack(), [1, 2])

    def test_told_by_run_is_the_askers_own(self):
        image = main_of("small 1", "tell", "stop")
        told = run(image)
        self.assertIs(type(told), tuple)
        told[0].append(9)
        self.assertEqual(run(image), ([1], "stop", 3))

    def test_what_is_handed_in_stays_and_is_not_kept(self):
        image = main_of("ask", "tell", "small 0", "push 513", "put d", "ask", "tell", "stop", more=DATA)
        before = image_fields(image)
        before = (before[0], list(before[1]), list(before[2]), list(before[3]))
        inputs = [5, 6]
        machine = Machine(image, 7, inputs)
        inputs[1] = 99
        del inputs[0]
        while machine.step():
            pass
        self.assertEqual((machine.told(), inputs), ([5, 6], [99]))
        self.assertEqual(image_fields(image), before)
        inputs = [5, 6]
        self.assertEqual(run(image, 7, inputs), run(image, 7, inputs))
        self.assertEqual(inputs, [5, 6])

    def test_two_machines_of_one_image_keep_apart(self):
        image = main_of("small 0", "take d", "tell", "small 0", "small 99", "put d", "stop", more=DATA)
        first, second = Machine(image), Machine(image)
        while first.step():
            pass
        while second.step():
            pass
        self.assertEqual((first.told(), second.told()), ([3], [3]))


class WhatIsRefused(unittest.TestCase):
    def setUp(self):
        self.image = main_of("ask", "tell", "stop")

    def refuse(self, word, *things):
        self.assertEqual(refusal_of(Machine, self.image, *things), (word,), repr(things)[:80])
        self.assertEqual(refusal_of(run, self.image, *things), (word,), repr(things)[:80])

    def test_bases(self):
        last = 65536 - 3
        self.assertEqual(run(self.image, last, [7]), ([7], "stop", 3))
        for base in NO_NUMBERS + [-1, last + 1, 65536, 10 ** 30]:
            self.refuse("BadBase", base)

    def test_inputs(self):
        for inputs in NO_LISTS:
            self.refuse("BadInput", 0, inputs)
        for wrong in NO_NUMBERS + [-1, 65536, 10 ** 30]:
            self.refuse("BadInput", 0, [wrong])
            for place in range(4):
                inputs = [0, 65535, 7]
                inputs.insert(place, wrong)
                before = list(inputs)
                self.refuse("BadInput", 0, inputs)
                self.assertTrue(all(one is other for one, other in zip(inputs, before)))

    def test_how_many_inputs(self):
        image = main_of("at l", "ask", "tell", "go l")
        self.assertEqual(run(image, 0, []), ([], "none", 1))
        self.assertEqual(run(image, 0, None), ([], "none", 1))
        self.assertEqual(run(image, 0, list(range(100))), (list(range(100)), "none", 301))
        self.refuse("BadInput", 0, [7] * 101)
        self.refuse("BadInput", 0, [7] * 5000)

    def test_most(self):
        for most in NO_NUMBERS + [-1, 5001, 10 ** 30, -5000]:
            self.refuse("BadInput", 0, None, most)
            self.refuse("BadInput", 0, [7], most)
        for most in [0, 1, 5000]:
            self.assertIsNone(refusal_of(Machine, self.image, 0, [7], most))

    def test_base_ahead_of_inputs(self):
        for base in [-1, True, None, 65536]:
            self.refuse("BadBase", base, "no list")
            self.refuse("BadBase", base, [True])
            self.refuse("BadBase", base, None, -1)
            self.refuse("BadBase", base, [65536], 5001)

    def test_what_is_left_out(self):
        self.assertEqual(run(self.image), ([], "none", 1))
        self.assertEqual(run(self.image, inputs=[7]), ([7], "stop", 3))
        self.assertEqual(run(self.image, most=0, base=9, inputs=[7]), ([], "dry", 0))
        self.assertEqual(at_the_end(self.image, 0, [7]), ([], [7], 3, "stop"))


BASES = [0, 1, 255, 256, 4660, 32768, 57000]


def program():
    main = ("shared main", "code main", "at l", "ask", "dup", "ifnot out", "call twice", "call keep", "go l", "at out",
            "small 0", "take sum", "tell", "small 1", "take sum", "tell", "stop")
    twice = ("code twice", "dup", "add", "dup", "tell", "back")
    keep = ("code keep", "small 0", "take sum", "add", "small 0", "swap", "put sum", "small 1", "small 1", "take sum",
            "small 1", "add", "put sum", "back")
    data = ("data sum", "word 0", "word 0")
    return main, twice, keep, data


class TheSameAnywhere(unittest.TestCase):
    def cuts(self):
        main, twice, keep, data = program()
        yield [rows("part a", *main, *twice, *keep, *data)]
        yield [rows("part z", *main, *keep, *data, *twice)]
        yield [rows("part b", "wants twice", "wants keep", "shared sum", *main, *data),
               rows("part a", "shared twice", *twice), rows("part c", "shared keep", "wants sum", *keep)]
        yield [rows("part b", "wants twice", "wants keep", "wants sum", *main),
               rows("part a", "shared keep", "shared twice", "wants sum", *keep, *twice), rows("part c", "shared sum", *data)]
        yield [rows("part d", "wants twice", "wants keep", "wants sum", *main), rows("part a", "shared twice", *twice),
               rows("part b", "shared keep", "wants sum", *keep), rows("part c", "shared sum", *data)]

    def test_parts_in_any_order_cut_in_other_ways_at_every_base(self):
        expected = ([6, 10, 65532, 12, 3], "stop", 82)
        for texts in self.cuts():
            for order in itertools.permutations(texts):
                image = image_of(*order)
                for base in BASES + [65536 - len(image.body)]:
                    self.assertEqual(run(image, base, [3, 5, 65534, 0]), expected)

    def test_through_bytes(self):
        for texts in self.cuts():
            image = image_in(image_bytes(image_of(*texts)))
            self.assertEqual(run(image, 513, [3, 0]), run(image_of(*texts), 0, [3, 0]))
            self.assertEqual(run(image, 513, [3, 0])[0], [6, 6, 1])

    def test_many_programs_against_a_plain_run(self):
        ends = {}
        for seed in range(400):
            texts, inputs = chance_program(seed)
            expected = plain_run(texts, inputs, 300)
            ends[expected[1]] = ends.get(expected[1], 0) + 1
            image = image_of(*texts)
            for base in [0, 300 + seed]:
                self.assertEqual(run(image, base, inputs, 300), expected, seed)
        self.assertEqual(sorted(ends), ["beyond", "deep", "dry", "empty", "full", "none", "stop"])


if __name__ == "__main__":
    unittest.main()
