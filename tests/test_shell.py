"""Lines, and the answers to them word by word."""

import unittest

from helping import NO_TEXTS
from linkyard.shell import answer, play
from linkyard.words import hidden, shown
from linkyard.yard import Yard

MAIN = "part one ; shared main ; wants twice ; code main ; ask ; call twice ; tell ; stop"
TWICE = "part math ; shared twice ; code twice ; dup ; add ; back"
ALONE = "part alone ; shared main ; code main ; small 5 ; tell ; stop"
ECHO = "part echo ; shared main ; code main ; at l ; ask ; tell ; go l"
IMAGE = ("69 01 00 03 00 02 00 00 03 00 00 06 1b 10 20 1e\n"
         "50 00 00 1f 21 00 01 00 05 b2 90")


class GoodLines(unittest.TestCase):
    def test_a_play(self):
        self.assertEqual(play(["parts", "put " + MAIN, "parts", "shelve " + TWICE, "parts", "link", "image", "run 0 21",
                               "put " + ALONE, "parts", "take one", "parts", "run 7 21", "link", "run 0", "take alone",
                               "parts"]),
                         ["", "one", "one", "done", "one", "done", IMAGE, "stop 7 42", "alone", "alone one", "done",
                          "alone", "stop 7 42", "done", "stop 3 5", "done", ""])

    def test_a_play_begins_with_a_new_yard(self):
        self.assertEqual(play(["put " + ALONE, "parts"]), ["alone", "alone"])
        self.assertEqual(play(["parts"]), [""])
        self.assertEqual(play([]), [])

    def test_lines_stay_and_answers_are_new(self):
        lines = ["put " + ALONE, "link", "run 0"]
        told = play(lines)
        self.assertIs(type(told), list)
        told.append("more")
        self.assertEqual(lines, ["put " + ALONE, "link", "run 0"])
        self.assertEqual(play(lines), ["alone", "done", "stop 3 5"])

    def test_answers_of_a_yard_that_is_handed_in(self):
        yard = Yard()
        self.assertEqual(answer(yard, "put " + ALONE), "alone")
        self.assertEqual(yard.parts(), ["alone"])
        self.assertEqual(answer(yard, "link"), "done")
        self.assertEqual(answer(yard, "run 0"), "stop 3 5")
        self.assertEqual(yard.run(), ([5], "stop", 3))
        self.assertEqual(answer(yard, "image"), shown(yard.image()))
        self.assertEqual(hidden(answer(yard, "image")), yard.image())
        yard.take("alone")
        self.assertEqual(answer(yard, "parts"), "")

    def test_parts_rising(self):
        lines = ["put part %s ; code c ; stop" % name for name in ["b", "a10", "a9", "zz", "a"]]
        self.assertEqual(play(lines + ["parts"]), ["b", "a10", "a9", "zz", "a", "a a10 a9 b zz"])

    def test_runs(self):
        begin = ["put " + ECHO, "link"]
        for line, told in [("run 0", "none 1"), ("run 0 7", "none 4 7"), ("run 0 7 65535 0", "none 10 7 65535 0"),
                           ("run x1234 x00ff 5", "none 7 255 5"), ("run 65532 1", "none 4 1"),
                           ("run x0000 x0000", "none 4 0"), ("run 0 " + " ".join(["9"] * 100), "none 301" + " 9" * 100)]:
            self.assertEqual(play(begin + [line])[2], told, line[:40])
        self.assertEqual(play(["put part a ; shared main ; code main ; at l ; go l", "link", "run 0"])[2], "dry 1000")
        self.assertEqual(play(["put part a ; shared main ; code main ; hop main ; stop", "link", "run 0"])[2], "deep 17")

    def test_rows_between_their_signs(self):
        for line in ["put " + ALONE, "put  part  alone" + ALONE[len("part alone"):],
                     "put " + ALONE + " ; ", "put # ahead ; " + ALONE, "put " + ALONE.replace("small 5", "small 5 # five"),
                     "put " + ALONE.replace(" ; tell", " ;   tell  "), "put  ; " + ALONE, "put " + ALONE + " # ; "]:
            self.assertEqual(play([line, "link", "run 0"]), ["alone", "done", "stop 3 5"], line)

    def test_empty_rows_count(self):
        self.assertEqual(play(["put part a ;  ; nothing"]), ["refused badrow a 3"])
        self.assertEqual(play(["put  ;  ; nothing"]), ["refused badrow - 3"])
        self.assertEqual(play(["put part a ; ; nothing"]), ["refused badrow a 2"])
        self.assertEqual(play(["put part a;code c;stop"]), ["refused badrow - 1"])
        self.assertEqual(play(["put part a ;"]), ["refused badrow - 1"])
        self.assertEqual(play(["put part a; code c"]), ["refused badrow - 1"])


NEAR_ONES = ["", " ", "  ", "Parts", "parts ", " parts", "parts parts", "part", "partss", "parts one", "link ", " link",
             "links", "link one", "Link", "image ", " image", "images", "image 0", "put", "Put " + ALONE, " put " + ALONE,
             "puts " + ALONE, "putpart a", "shelve", "shelf " + TWICE, " shelve " + TWICE, "Shelve " + TWICE, "shelved",
             "take", "take ", "take  one", "take one ", " take one", "take one two", "take One", "take 7", "take 7a",
             "take abcdefghi", "take one;", "take a-b", "takes one", "takeone", "run", "run ", "run  0", " run 0", "run 0 ",
             "run 0  7", "runs 0", "run0", "Run 0", "run a", "run -1", "run 65536", "run 00", "run 01", "run x", "run x0",
             "run x00FF", "run x10000", "run +1", "run 1.0", "run 0 a", "run 0 65536", "run 0 7 -1", "run 0 7 x", "run 0 07",
             "run 0 7 one", "run 0, 7", "run 0 7;", "run None", "run True", "run 0 True", "nothing", "one", "stop", "help",
             "part one", ";", " ; ", "parts ; link", "link ; image", "take one ; link", "#", "# remark", "parts # all",
             "answer", "quit", "run 0 # base", "run 0 70000", "7", "run x00ff x00g0"]


class BadLines(unittest.TestCase):
    def test_lines_that_are_near_one(self):
        yard = Yard()
        answer(yard, "put " + MAIN)
        answer(yard, "shelve " + TWICE)
        answer(yard, "link")
        before = (yard.parts(), yard.image())
        for line in NEAR_ONES:
            self.assertEqual(answer(yard, line), "refused badline", line)
            self.assertEqual(play([line]), ["refused badline"], line)
        self.assertEqual((yard.parts(), yard.image()), before)

    def test_what_is_no_line(self):
        for thing in NO_TEXTS + [("parts",), ["parts"], b"parts"]:
            self.assertEqual(answer(Yard(), thing), "refused badline", repr(thing))
            self.assertEqual(play(["parts", thing, "parts"]), ["", "refused badline", ""], repr(thing))

    def test_line_ends_and_signs_that_texts_have_not(self):
        for line in ["parts\n", "\nparts", "link\n", "\n", "put part a\ncode c\nstop", "put " + ALONE + "\n", "take one\n",
                     "run 0\n", "run 0\n7", "shelve " + TWICE + "\n", "parts\t", "put part\ta ; code c ; stop",
                     "put " + ALONE + " # \u00e9", "run\t0", "take \u0430", "put " + ALONE + "\r", "shelve " + TWICE + "\x7f"]:
            yard = Yard()
            self.assertEqual(answer(yard, line), "refused badline", repr(line))
            self.assertEqual(yard.parts(), [])

    def test_bad_lines_ahead_of_all_else(self):
        self.assertEqual(play(["run a", "run 0 65536", "take 7"]), ["refused badline"] * 3)


class Refusals(unittest.TestCase):
    def test_of_texts(self):
        self.assertEqual(play(["put ", "shelve ", "put" + " ; " * 601, "put nothing", "shelve nothing", "put part a",
                               "put part a ; code c ; stop ; code c ; stop", "put part a ; code c ; call d ; stop",
                               "put part a ; code c ; go l" + " ; push 1" * 50 + " ; at l ; stop",
                               "shelve part a ; shared x ; code c ; stop", "parts"]),
                         ["refused badrow - 1", "refused badrow - 1", "refused badtext", "refused badrow - 1",
                          "refused badrow - 1", "refused badrow a 1", "refused twice a 4 c", "refused lacking a 3 d",
                          "refused toofar a 3 l", "refused lacking a 2 x", ""])

    def test_of_rows_without_words(self):
        self.assertEqual(play(["put ", "put  ", "put  ; ", "shelve ", "shelve #", "shelve  ;  ; ", "put", "shelve"]),
                         ["refused badrow - 1", "refused badrow - 1", "refused badrow - 2", "refused badrow - 1",
                          "refused badrow - 1", "refused badrow - 3", "refused badline", "refused badline"])

    def test_of_shelves_and_names(self):
        self.assertEqual(play(["shelve " + TWICE, "shelve " + TWICE, "take math", "take one", "take part"]),
                         ["done", "refused twice math 1 math", "refused nopart", "refused nopart", "refused nopart"])

    def test_of_linking(self):
        self.assertEqual(play(["link", "put " + MAIN, "link", "shelve " + TWICE,
                               "shelve part other ; shared twice ; code twice ; back", "link", "take one",
                               "put part b ; code c ; take c ; stop", "link", "put " + ALONE, "link",
                               "put part b ; code c ; hop d ; stop ; data d ; word 1", "link", "put part b ; code c ; hop e"
                               " ; stop ; code d" + " ; push 1" * 80 + " ; stop ; code e ; stop", "link", "image"]),
                         ["refused nomain", "one", "refused lacking one 1 twice", "done", "done",
                          "refused twice one 1 twice", "done", "b", "refused nomain", "alone", "refused wrongkind b 3 c",
                          "b", "refused wrongkind b 3 d", "b", "refused toofar b 3 e", "refused nomain"])

    def test_too_great(self):
        lines = ["put part p%02d ; code c ; stop" % number for number in range(40)]
        self.assertEqual(play(lines + ["put " + ALONE, "link"])[-1], "refused toogreat")
        self.assertEqual(play(lines[1:] + ["put " + ALONE, "link"])[-1], "done")

    def test_of_runs(self):
        self.assertEqual(play(["image", "run 0", "run 65535", "put " + ECHO, "run 0", "link", "run 65533", "run 65535 7",
                               "run 0 " + " ".join(["7"] * 101), "run 65533 " + " ".join(["7"] * 101)]),
                         ["refused nomain", "refused nomain", "refused nomain", "echo", "refused nomain", "done",
                          "refused badbase", "refused badbase", "refused badinput", "refused badbase"])


if __name__ == "__main__":
    unittest.main()
