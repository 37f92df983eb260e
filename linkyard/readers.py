"""What stands in a row of bytes, read from its first byte to its last."""

from linkyard.errors import BadBytes
from linkyard.words import word_in


class Reader:
    """A row of bytes and how much of it was read."""

    def __init__(self, row):
        self.content = list(row)
        self.spot = 0

    def several(self, size):
        """The next bytes, so many of them."""
        behind = self.spot + size
        if behind > len(self.content):
            raise BadBytes("the row ends too early")
        read = self.content[self.spot:behind]
        self.spot = behind
        return read

    def byte(self):
        return self.several(1)[0]

    def two(self):
        return word_in(self.several(2))

    def need_mark(self, mark):
        """What a row begins with tells what is written in it."""
        if self.several(len(mark)) != list(mark):
            raise BadBytes("the row begins otherwise")

    def need_end(self):
        if self.spot != len(self.content):
            raise BadBytes("the row ends too late")
