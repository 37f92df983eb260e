"""What several tests need: how a refusal is looked at, texts of parts, and things of other kinds."""

NO_TEXTS = [None, True, False, 0, 7, -1, 1.5, b"", b"part a", bytearray(b"part a"), [], ["part a"], (), ("part a",),
            {}, {"part": "a"}, set(), object(), str, len]
NO_LISTS = [True, False, 0, 7, 1.5, "", "abc", b"", b"\x01\x02", bytearray(b"\x01"), (), (1, 2), {}, {1: 2}, set(),
            range(3), object(), list, len]
NO_NUMBERS = [True, False, None, "", "0", "7", 0.0, 7.0, float("nan"), [], [7], (), (7,), {}, set(), b"\x07", object(),
              int, len]


def told_of(refusal):
    """A refusal as a tuple: its class's name, and its part, line and name as far as it has these."""
    told = (type(refusal).__name__,)
    for field in ["part", "line", "name"]:
        if hasattr(refusal, field):
            told += (getattr(refusal, field),)
    return told


def refusal_of(call, *things):
    """What a call is refused with, as told_of tells it; None where it is not refused."""
    from linkyard.errors import YardError
    try:
        call(*things)
    except YardError as refusal:
        return told_of(refusal)
    return None


def rows(*texts):
    return "\n".join(texts)


def fields_of(part):
    return (part.name, part.sections, part.wants, part.places)


def image_fields(image):
    return (image.main, image.sections, image.body, image.far)


def told_rows(text):
    """A part's text as (name, wants, shared, sections), each section (kind, name, rows of words): of good texts alone."""
    name, wants, shared, sections = "", [], [], []
    for row in text.split("\n"):
        words = row.split("#")[0].split()
        if not words:
            continue
        if words[0] == "part" and not name:
            name = words[1]
        elif words[0] in ["code", "data"]:
            sections.append((words[0], words[1], []))
        elif sections:
            sections[-1][2].append(words)
        else:
            (wants if words[0] == "wants" else shared).append(words[1])
    return name, wants, shared, sections


def number_of(word):
    return int(word[1:], 16) if word[0] == "x" else int(word)


TWO_WORDS = {"add": lambda a, b: (a + b) & 65535, "sub": lambda a, b: (a - b) & 65535,
             "mul": lambda a, b: (a * b) & 65535, "and": lambda a, b: a & b, "or": lambda a, b: a | b,
             "xor": lambda a, b: a ^ b, "left": lambda a, b: int(format(a, "016b")[b:].ljust(16, "0")[:16], 2),
             "right": lambda a, b: a // 2 ** b, "less": lambda a, b: int(a < b), "same": lambda a, b: int(a == b)}


class Plain:
    """A run by the rows, written apart from the program, for comparing."""

    def __init__(self, texts, inputs, most):
        self.codes, self.data, self.goals = {}, {}, {}
        parts = [told_rows(text) for text in texts]
        where = {name: (part, name) for part, wants, shared, sections in parts for name in shared}
        for part, wants, shared, sections in parts:
            for name in wants:
                self.goals[part, name] = where[name]
            for kind, name, lines in sections:
                self.goals[part, name] = (part, name)
                if kind == "code":
                    self.codes[part, name] = lines
                else:
                    self.data[part, name] = [number_of(words[1]) for words in lines]
        self.section, self.row = where["main"], 0
        self.stack, self.waiting, self.inputs, self.told = [], [], list(inputs), []
        self.steps, self.most = 0, most

    def run(self):
        end = None
        while end is None:
            while self.codes[self.section][self.row][0] == "at":
                self.row += 1
            if self.steps == self.most:
                return self.told, "dry", self.steps
            self.steps += 1
            end = self.one(*self.codes[self.section][self.row])
        return self.told, end, self.steps

    def one(self, word, named=None):
        stack, room = self.stack, 32 - len(self.stack)
        self.row += 1
        if word in TWO_WORDS:
            if len(stack) < 2:
                return "empty"
            b, a = stack.pop(), stack.pop()
            stack.append(TWO_WORDS[word](a, b))
        elif word in ["not", "dup", "drop", "tell", "ifnot", "take"]:
            return self.with_one(word, named, room)
        elif word in ["swap", "put"]:
            if len(stack) < 2:
                return "empty"
            if word == "swap":
                stack[-1], stack[-2] = stack[-2], stack[-1]
            else:
                data = self.data[self.goals[self.section[0], named]]
                if stack[-2] >= len(data):
                    return "beyond"
                data[stack[-2]] = stack[-1]
                del stack[-2:]
        elif word in ["small", "push", "ask"]:
            if not room:
                return "full"
            if word == "ask" and not self.inputs:
                return "none"
            stack.append(self.inputs.pop(0) if word == "ask" else number_of(named))
        else:
            return self.with_none(word, named)

    def with_one(self, word, named, room):
        stack = self.stack
        if not stack:
            return "empty"
        if word == "dup" and not room:
            return "full"
        if word == "take":
            data = self.data[self.goals[self.section[0], named]]
            if stack[-1] >= len(data):
                return "beyond"
            stack[-1] = data[stack[-1]]
        elif word == "not":
            stack[-1] ^= 65535
        elif word == "dup":
            stack.append(stack[-1])
        else:
            last = stack.pop()
            if word == "tell":
                self.told.append(last)
            if word == "ifnot" and not last:
                self.with_none("go", named)

    def with_none(self, word, named):
        if word == "stop" or (word == "back" and not self.waiting):
            return "stop"
        if word == "go":
            self.row = self.codes[self.section].index(["at", named])
        elif word == "back":
            self.section, self.row = self.waiting.pop()
        else:
            if len(self.waiting) == 16:
                return "deep"
            self.waiting.append((self.section, self.row))
            self.section, self.row = self.goals[self.section[0], named], 0


def plain_run(texts, inputs=(), most=1000):
    return Plain(texts, inputs, most).run()


class Chance:
    """Numbers that look like chance and are the same each time."""

    def __init__(self, seed):
        self.state = seed * 2654435761 % 4294967296

    def below(self, bound):
        self.state = (self.state * 1103515245 + 12345) % 2147483648
        return (self.state >> 8) % bound

    def one_of(self, things):
        return things[self.below(len(things))]


ALONE = "add sub mul and or xor not left right less same dup drop swap ask tell".split()


def chance_code(chance, codes, data, size):
    """Rows of a code that goes to some of these codes and data."""
    told = []
    for number in range(size):
        told.append("at l%d" % number)
        pick = chance.below(20)
        if pick < 7:
            told.append(chance.one_of(ALONE))
        elif pick < 12:
            told.append("small %d" % chance.below(6))
        elif pick < 13:
            told.append("push x%04x" % chance.below(65536))
        elif pick < 15:
            told.append("%s l%d" % (chance.one_of(["go", "ifnot", "ifnot"]), chance.below(size)))
        elif pick < 18 and codes:
            told.append(chance.one_of(["call ", "call ", "hop "]) + chance.one_of(codes))
        elif data:
            told += ["small %d" % chance.below(4), chance.one_of(["take ", "put "]) + chance.one_of(data)]
        else:
            told.append("ask")
    return told + [chance.one_of(["stop", "back", "back", "go l0"])]


def chance_program(seed, parts=3):
    """Texts of parts that link, in each of which sections are called alike."""
    chance = Chance(seed)
    names = ["p%d" % number for number in range(parts)]
    codes = {name: ["c%s%d" % (name, number) for number in range(1 + chance.below(2))] for name in names}
    data = {name: ["d%s%d" % (name, number) for number in range(chance.below(2))] for name in names}
    codes[names[chance.below(parts)]].append("main")
    texts = []
    for name in names:
        wants = [goal for other in names if other != name for goal in codes[other] + data[other]]
        own_codes, own_data = codes[name] + ["own"], data[name] + ["tab"]
        told = ["part " + name] + ["shared " + goal for goal in codes[name] + data[name]] + ["wants " + goal
                                                                                             for goal in wants]
        for code in own_codes:
            code_goals = own_codes + [goal for goal in wants if goal[0] != "d"]
            data_goals = own_data + [goal for goal in wants if goal[0] == "d"]
            told += ["code " + code] + chance_code(chance, code_goals, data_goals, 3 + chance.below(5))
        for one in own_data:
            told += ["data " + one] + ["word %d" % chance.below(9) for turn in range(1 + chance.below(4))]
        texts.append("\n".join(told))
    return texts, [chance.below(5) for turn in range(chance.below(8))]
