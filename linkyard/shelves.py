"""Shelves of parts, and the parts of shelves that others want."""

from linkyard.errors import Lacking, TooGreat, Twice
from linkyard.joining import least_unmet, least_wanting, need_unlike_parts
from linkyard.layout import by_names
from linkyard.partbytes import part_in

MOST_PARTS = 40


class Shelf:
    """Parts of unlike names."""

    def __init__(self):
        self.stock = {}

    def put(self, row):
        """Puts the part of a row of bytes there."""
        part = part_in(row)
        if part.name in self.stock:
            raise Twice(part.name, 1, part.name)
        self.stock[part.name] = part

    def names(self):
        """The names of the parts, rising."""
        return sorted(self.stock)

    def sharing(self, name):
        """The parts that share a name, by their names."""
        return [self.stock[own] for own in self.names() if name in self.stock[own].names()]


def found_sharing(shelves, name):
    found = []
    for shelf in shelves:
        found.extend(shelf.sharing(name))
    return found


def part_for(parts, shelves, name):
    """The one part of all shelves that shares a name which some of the parts want."""
    found = found_sharing(shelves, name)
    if not found:
        raise Lacking(least_wanting(parts, name), 1, name)
    if len(found) > 1:
        raise Twice(least_wanting(parts, name), 1, name)
    part = found[0]
    if part.name in [other.name for other in parts]:
        raise Twice(part.name, 1, part.name)
    if len(parts) >= MOST_PARTS:
        raise TooGreat("there would be more than 40 parts")
    return part


def picked(parts, shelves):
    """All parts: those handed in, and those of shelves that they want, by names rising."""
    need_unlike_parts(parts)
    gathered = list(parts)
    name = least_unmet(gathered)
    while name is not None:
        gathered.append(part_for(gathered, shelves, name))
        name = least_unmet(gathered)
    return by_names(gathered)
