"""A part: sections of bytes, what it wants, and the places where goals are to be filled in."""

# Codes are laid ahead of data, and each kind is written as its number here.
KINDS = ("code", "data")
MOST_ROWS = 600
MOST_SECTIONS = 100
MOST_WANTS = 100
MOST_WORDS = 32
MOST_CODE = 250


class Part:
    """A part; its fields are only read."""

    def __init__(self, name, sections, wants, places):
        self.name = name
        self.sections = [(section[0], section[1], section[2], list(section[3])) for section in sections]
        self.wants = list(wants)
        self.places = list(places)

    def names(self):
        """The shared names, rising."""
        return sorted([section[1] for section in self.sections if section[2]])

    def place_of(self, name):
        """The number of the section of that name, None without one."""
        for number, section in enumerate(self.sections):
            if section[1] == name:
                return number
        return None
