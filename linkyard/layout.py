"""Where the sections of parts are laid, and the image that comes of it."""

from linkyard.parts import KINDS

MOST_BYTES = 8000


class Image:
    """Parts put together; its fields are only read."""

    def __init__(self, main, sections, body, far):
        self.main = main
        self.sections = list(sections)
        self.body = list(body)
        self.far = list(far)


def by_names(parts):
    return sorted(parts, key=lambda part: part.name)


def laid(parts):
    """The sections as they are laid: part, name, kind, place and size of each."""
    told = []
    place = 0
    for kind in KINDS:
        for part in by_names(parts):
            for section in part.sections:
                if section[0] == kind:
                    told.append((part.name, section[1], kind, place, len(section[3])))
                    place += len(section[3])
    return told


def shared_of(parts):
    """From each shared name to the part's name and the name, of parts no two of which share a name."""
    shared = {}
    for part in parts:
        for name in part.names():
            shared[name] = (part.name, name)
    return shared


def sections_by_names(parts):
    """From the names of each part and section to how it is laid."""
    sections = {}
    for section in laid(parts):
        sections[(section[0], section[1])] = section
    return sections
