"""A yard: parts, a shelf, and what was linked last."""

from linkyard.assembling import assembled
from linkyard.errors import NoMain, NoPart, TooGreat
from linkyard.images import image_bytes
from linkyard.linking import linked
from linkyard.machine import run
from linkyard.partbytes import part_bytes
from linkyard.shelves import MOST_PARTS, Shelf, picked


class Yard:
    """Parts and a shelf, put by their texts."""

    def __init__(self):
        self.held = {}
        self.shelf = Shelf()
        self.last = None

    def put(self, text):
        """Puts a part, in the place of one of that name: its name."""
        part = assembled(text)
        self.held[part.name] = part
        return part.name

    def take(self, name):
        """Takes a part away."""
        # Looked for in a list, as what is handed in may be of any kind.
        if name not in self.parts():
            raise NoPart("there is no part of that name")
        self.held.pop(name)

    def shelve(self, text):
        """Puts a part on the shelf."""
        self.shelf.put(part_bytes(assembled(text)))

    def parts(self):
        """The names of the parts, rising."""
        return sorted(self.held)

    def link(self):
        """Links the parts, and those of the shelf that they want."""
        if not self.held:
            raise NoMain("there are no parts")
        if len(self.held) > MOST_PARTS:
            raise TooGreat("there are more than 40 parts")
        self.last = linked(picked([self.held[name] for name in self.parts()], [self.shelf]))

    def need_linked(self):
        if self.last is None:
            raise NoMain("nothing was linked")
        return self.last

    def image(self):
        """The bytes of what was linked last."""
        return image_bytes(self.need_linked())

    def run(self, base=0, inputs=None, most=1000):
        """Runs what was linked last."""
        return run(self.need_linked(), base, inputs, most)
