"""Operations: their words, their bytes, and how both are read."""

from linkyard.words import is_byte, is_name, number_in, two_of, word_in

# What each first byte tells: the word, how many bytes there are in all, the way to a goal.
OPS = {
    16: ("add", 1, ""), 17: ("sub", 1, ""), 18: ("mul", 1, ""), 19: ("and", 1, ""), 20: ("or", 1, ""),
    21: ("xor", 1, ""), 22: ("not", 1, ""), 23: ("left", 1, ""), 24: ("right", 1, ""), 25: ("less", 1, ""),
    26: ("same", 1, ""), 27: ("dup", 1, ""), 28: ("drop", 1, ""), 29: ("swap", 1, ""), 30: ("ask", 1, ""),
    31: ("tell", 1, ""), 32: ("back", 1, ""), 33: ("stop", 1, ""),
    48: ("small", 2, ""), 49: ("push", 3, ""),
    64: ("go", 2, "near"), 65: ("ifnot", 2, "near"), 66: ("hop", 2, "near"),
    80: ("call", 3, "far"), 81: ("take", 3, "far"), 82: ("put", 3, "far"),
}
# One of these ends a code, so that no run goes on behind it.
LAST_WORDS = ("go", "back", "stop")
# Their goals are labels of their own section; the goals of all others are sections.
TO_LABELS = ("go", "ifnot")


def byte_of(word):
    """The first byte of the operation that a word tells, None where it tells none."""
    for byte in OPS:
        if OPS[byte][0] == word:
            return byte
    return None


class Op:
    """An operation; those below are made, this one never alone."""

    def size(self):
        return len(self.told())

    def word(self):
        raise NotImplementedError("each kind of operation tells its own word")

    def row(self):
        return self.word()

    def told(self):
        return [byte_of(self.word())]

    def way(self):
        return ""

    def goal(self):
        return ""


class Alone(Op):
    """An operation that names nothing."""

    def __init__(self, word):
        self.spelled = word

    def word(self):
        return self.spelled


class Small(Op):
    """Puts a number of one byte."""

    def __init__(self, number):
        self.number = number

    def word(self):
        return "small"

    def row(self):
        return "small " + str(self.number)

    def told(self):
        return [byte_of("small"), self.number]


class Push(Op):
    """Puts a number of two bytes."""

    def __init__(self, number):
        self.number = number

    def word(self):
        return "push"

    def row(self):
        return "push " + str(self.number)

    def told(self):
        return [byte_of("push")] + two_of(self.number)


class Aimed(Op):
    """An operation with a goal; the two kinds below are made, this one never alone."""

    def __init__(self, word, goal):
        self.spelled = word
        self.aim = goal

    def word(self):
        return self.spelled

    def row(self):
        return self.spelled + " " + self.aim

    def goal(self):
        return self.aim


class Near(Aimed):
    """Tells in one byte how far its goal is."""

    def told(self):
        return [byte_of(self.spelled), 0]

    def way(self):
        return "near"


class Far(Aimed):
    """Tells in two bytes where its goal is."""

    def told(self):
        return [byte_of(self.spelled), 0, 0]

    def way(self):
        return "far"


def op_with_number(word, number):
    if number is None:
        return None
    if word == "push":
        return Push(number)
    return Small(number) if is_byte(number) else None


def op_with_goal(word, way, goal):
    if not is_name(goal):
        return None
    return Near(word, goal) if way == "near" else Far(word, goal)


def op_in(words):
    """The operation that a list of words writes, None where they write none."""
    byte = byte_of(words[0]) if words else None
    if byte is None:
        return None
    word = OPS[byte][0]
    if OPS[byte][1] == 1:
        return Alone(word) if len(words) == 1 else None
    if len(words) != 2:
        return None
    if OPS[byte][2] == "":
        return op_with_number(word, number_in(words[1]))
    return op_with_goal(word, OPS[byte][2], words[1])


def size_at(row, place):
    """How many bytes the operation has that begins at a place, None where none does or some of them lack."""
    if not 0 <= place < len(row) or row[place] not in OPS:
        return None
    size = OPS[row[place]][1]
    return size if place + size <= len(row) else None


def word_at(row, place):
    """The word of the operation that begins at a place."""
    return OPS[row[place]][0]


def way_at(row, place):
    """The way of the operation that begins at a place."""
    return OPS[row[place]][2]


def alone_at(row, place):
    """An Alone, a Small or a Push that stands at a place, None of others."""
    if size_at(row, place) is None or way_at(row, place) != "":
        return None
    word = word_at(row, place)
    if word == "small":
        return Small(row[place + 1])
    if word == "push":
        return Push(word_in(row, place + 1))
    return Alone(word)


def starts_in(row):
    """The places where the operations of a row of bytes begin, None where they aren't whole."""
    starts = []
    place = 0
    while place < len(row):
        size = size_at(row, place)
        if size is None:
            return None
        starts.append(place)
        place += size
    return starts


def is_near(distance):
    """Whether a goal that is so far from the byte behind an operation can be told in one byte."""
    return is_byte(distance + 128)


def near_byte(distance):
    return distance % 256


def near_goal(row, place):
    """The place to which the near operation leads that begins at a place."""
    byte = row[place + 1]
    return place + 2 + (byte if byte < 128 else byte - 256)
