"""What stands in a row of bytes, read from its first byte to its last."""

from linkyard.errors import BadBytes
from linkyard.words import word_in


def need(good, words):
    """What isn't written as it must be is refused with these words."""
    if not good:
        raise BadBytes(words)


class Reader:
    """A row of bytes and how much of it was read."""

    def __init__(self, row):
        self.content = list(row)
        self.spot = 0

    def several(self, size):
        """The next bytes, so many of them."""
        behind = self.spot + size
        need(behind <= len(self.content), "the row ends too early")
        read = self.content[self.spot:behind]
        self.spot = behind
        return read

    def byte(self):
        return self.several(1)[0]

    def two(self):
        return word_in(self.several(2))

    def need_mark(self, mark):
        """What a row begins with tells what is written in it."""
        need(self.several(len(mark)) == list(mark), "the row begins otherwise")

    def need_end(self):
        need(self.spot == len(self.content), "the row ends too late")
