"""What must be so of parts that are put together, wherever their sections are laid."""

from linkyard.errors import Lacking, NoMain, Twice, WrongKind
from linkyard.layout import by_names, sections_by_names, shared_of
from linkyard.ops import word_at

TO_DATA = ("take", "put")


def least_twice(names):
    """The least name that stands twice among names, None where none does."""
    rising = sorted(names)
    for name, behind in zip(rising, rising[1:]):
        if name == behind:
            return name
    return None


def need_unlike_parts(parts):
    name = least_twice([part.name for part in parts])
    if name is not None:
        raise Twice(name, 1, name)


def need_shared_once(parts):
    shared = []
    for part in parts:
        shared.extend(part.names())
    name = least_twice(shared)
    if name is not None:
        raise Twice(max([part.name for part in parts if name in part.names()]), 1, name)


def least_unmet(parts):
    """The least name that a part wants and none shares, None where there is none."""
    shared = shared_of(parts)
    unmet = []
    for part in parts:
        unmet.extend([name for name in part.wants if name not in shared])
    return min(unmet, default=None)


def least_wanting(parts, name):
    """The least name of a part that wants a name."""
    return min([part.name for part in parts if name in part.wants])


def need_met(parts):
    name = least_unmet(parts)
    if name is not None:
        raise Lacking(least_wanting(parts, name), 1, name)


def shares_main(part):
    for section in part.sections:
        if section[0] == "code" and section[1] == "main" and section[2]:
            return True
    return False


def need_main(parts):
    if not any([shares_main(part) for part in parts]):
        raise NoMain("no part shares a code main")


def need_joined(parts):
    """Parts of unlike names, in which each wanted name is shared once, and main is a code."""
    need_unlike_parts(parts)
    need_shared_once(parts)
    need_met(parts)
    need_main(parts)


def goal_of(part, name, shared):
    """The part and the section that a name stands for in a part."""
    return shared[name] if name in part.wants else (part.name, name)


def need_kind(part, place, kind):
    """The operation of a place goes to a section of the kind that it can go to."""
    row = part.sections[place[0]][3]
    asked = "data" if word_at(row, place[1] - 1) in TO_DATA else "code"
    if kind != asked:
        raise WrongKind(part.name, place[4], place[3])


def need_kinds(parts):
    sections = sections_by_names(parts)
    shared = shared_of(parts)
    for part in by_names(parts):
        for place in part.places:
            need_kind(part, place, sections[goal_of(part, place[3], shared)][2])
