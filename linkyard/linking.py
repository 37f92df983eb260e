"""Parts, linked to one image."""

from linkyard.errors import TooFar, TooGreat
from linkyard.joining import goal_of, need_joined, need_kind
from linkyard.layout import MOST_BYTES, Image, by_names, laid, sections_by_names, shared_of
from linkyard.ops import is_near, near_byte
from linkyard.words import two_of


def body_of(parts):
    """The bytes of all sections as they are laid, no goal filled in."""
    rows = {}
    for part in parts:
        for section in part.sections:
            rows[(part.name, section[1])] = section[3]
    body = []
    for section in laid(parts):
        body.extend(rows[(section[0], section[1])])
    return body


def goal_bytes(part, place, spot, goal):
    """What is filled in at a spot of the body for a goal that lies at another one."""
    if place[2] == "far":
        return two_of(goal)
    distance = goal - (spot + 1)
    if not is_near(distance):
        raise TooFar(part.name, place[4], place[3])
    return [near_byte(distance)]


def fillings_of(parts):
    """Each place as a tuple: its spot in the body, its way, and the bytes to fill in."""
    sections = sections_by_names(parts)
    shared = shared_of(parts)
    fillings = []
    for part in by_names(parts):
        for place in part.places:
            goal = sections[goal_of(part, place[3], shared)]
            need_kind(part, place, goal[2])
            home = sections[(part.name, part.sections[place[0]][1])]
            spot = home[3] + place[1]
            fillings.append((spot, place[2], goal_bytes(part, place, spot, goal[3])))
    return fillings


def filled(body, fillings):
    whole = list(body)
    for filling in fillings:
        for number, byte in enumerate(filling[2]):
            whole[filling[0] + number] = byte
    return whole


def linked(parts):
    """The image of parts, in whatever order they stand."""
    need_joined(parts)
    fillings = fillings_of(parts)
    body = filled(body_of(parts), fillings)
    if len(body) > MOST_BYTES:
        raise TooGreat("there are more than 8000 bytes")
    main = sections_by_names(parts)[shared_of(parts)["main"]][3]
    far = sorted([filling[0] for filling in fillings if filling[1] == "far"])
    return Image(main, [(section[2], section[4]) for section in laid(parts)], body, far)
