"""A run, operation by operation, whatever tells its operations and keeps its data."""

from linkyard.errors import BadInput
from linkyard.words import MOST_WORD, is_number_up_to, is_word

MOST_STACK = 32
MOST_WAITING = 16
MOST_INPUTS = 100
MOST_STEPS = 5000
MOST_SHIFT = 15
# A hop is a call by a near goal, so back goes on behind either.
CALLS = ("hop", "call")
# How many words an operation takes off the stack, and how many it puts there; all others none.
TAKES = {"add": 2, "sub": 2, "mul": 2, "and": 2, "or": 2, "xor": 2, "left": 2, "right": 2, "less": 2, "same": 2,
         "not": 1, "dup": 1, "drop": 1, "swap": 2, "tell": 1, "ifnot": 1, "take": 1, "put": 2}
PUTS = {"add": 1, "sub": 1, "mul": 1, "and": 1, "or": 1, "xor": 1, "left": 1, "right": 1, "less": 1, "same": 1,
        "not": 1, "dup": 2, "swap": 2, "ask": 1, "small": 1, "push": 1, "take": 1}


def need_inputs(inputs, most):
    """The inputs in a new list, where these and the most of operations are good."""
    given = [] if inputs is None else inputs
    if not isinstance(given, list) or len(given) > MOST_INPUTS or not all([is_word(word) for word in given]):
        raise BadInput("inputs are a list of up to 100 words")
    if not is_number_up_to(most, MOST_STEPS):
        raise BadInput("at most 5000 operations may be done")
    return list(given)


def shifted(word, a, b):
    if b > MOST_SHIFT:
        return 0
    return (a << b) & MOST_WORD if word == "left" else a >> b


def reckoned(word, a, b):
    """What an operation tells of two words, of which a stands below b."""
    if word == "add":
        return (a + b) % (MOST_WORD + 1)
    if word == "sub":
        return (a - b) % (MOST_WORD + 1)
    if word == "mul":
        return (a * b) % (MOST_WORD + 1)
    if word == "and":
        return a & b
    if word == "or":
        return a | b
    if word == "xor":
        return a ^ b
    if word == "less":
        return 1 if a < b else 0
    if word == "same":
        return 1 if a == b else 0
    return shifted(word, a, b)


class Ground:
    """What a run goes over; those below are made, this one never alone."""

    def seen(self, place):
        """The operation at a place: its word, the number or the goal it names, and the place behind it."""
        raise NotImplementedError("each kind of ground has its own operations")

    def room(self, data):
        """How many words a data has."""
        raise NotImplementedError("each kind of ground has its own data")

    def kept(self, data, number):
        """A word of a data."""
        raise NotImplementedError("each kind of ground has its own data")

    def keep(self, data, number, word):
        """Puts a word of a data."""
        raise NotImplementedError("each kind of ground has its own data")


class Doing:
    """A run over a ground, from a place of it on."""

    def __init__(self, ground, first, given, most):
        self.ground = ground
        self.spot = first
        self.given = list(given)
        self.most = most
        self.pile = []
        self.waiting = []
        self.spoken = []
        self.done = 0
        self.ended = None

    def end(self):
        """How the run ended, None before."""
        return self.ended

    def told(self):
        return list(self.spoken)

    def steps(self):
        return self.done

    def stack(self):
        return list(self.pile)

    def step(self):
        """Does an operation, or ends dry: True; False where it was over."""
        if self.ended is not None:
            return False
        if self.done == self.most:
            self.ended = "dry"
            return True
        seen = self.ground.seen(self.spot)
        self.ended = self.ending(seen[0], seen[1])
        self.done += 1
        if self.ended is None:
            self.do(seen[0], seen[1], seen[2])
        return True

    def ending(self, word, named):
        """How an operation would end the run, None where it goes on."""
        size = len(self.pile)
        if word == "stop" or (word == "back" and not self.waiting):
            return "stop"
        if size < TAKES.get(word, 0):
            return "empty"
        if size - TAKES.get(word, 0) + PUTS.get(word, 0) > MOST_STACK:
            return "full"
        if word == "ask" and not self.given:
            return "none"
        if word in ("take", "put") and self.pile[size - TAKES[word]] >= self.ground.room(named):
            return "beyond"
        if word in CALLS and len(self.waiting) == MOST_WAITING:
            return "deep"
        return None

    def do(self, word, named, behind):
        """Does an operation that doesn't end the run."""
        kept = len(self.pile) - TAKES.get(word, 0)
        words = self.pile[kept:]
        self.pile = self.pile[:kept] + self.words_put(word, named, words)
        if word == "tell":
            self.spoken.append(words[0])
        if word == "put":
            self.ground.keep(named, words[0], words[1])
        self.spot = self.next_spot(word, named, behind, words)

    def words_put(self, word, named, words):
        """What an operation puts on the stack, in the place of the words that it takes."""
        if word in ("small", "push"):
            return [named]
        if word == "ask":
            return [self.given.pop(0)]
        if word == "take":
            return [self.ground.kept(named, words[0])]
        if word == "not":
            return [MOST_WORD - words[0]]
        if word == "dup":
            return [words[0], words[0]]
        if word == "swap":
            return [words[1], words[0]]
        return [reckoned(word, words[0], words[1])] if PUTS.get(word, 0) == 1 else []

    def next_spot(self, word, named, behind, words):
        """Where the run goes on behind an operation."""
        if word == "back":
            return self.waiting.pop()
        if word in CALLS:
            self.waiting.append(behind)
        if word == "go" or word in CALLS or (word == "ifnot" and words[0] == 0):
            return named
        return behind


def to_the_end(doing):
    """Runs to the end: the told words, the end, and how many operations were done."""
    while doing.step():
        pass
    return (doing.told(), doing.end(), doing.steps())
