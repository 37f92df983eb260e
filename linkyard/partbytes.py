"""A part, written as a row of bytes and read from one."""

from linkyard.checks import opened, sealed
from linkyard.ops import LAST_WORDS, TO_LABELS, near_goal, starts_in, way_at, word_at
from linkyard.parts import KINDS, MOST_CODE, MOST_ROWS, MOST_SECTIONS, MOST_WANTS, MOST_WORDS, Part
from linkyard.readers import Reader, need
from linkyard.words import FIGURES, LETTERS, is_name, two_of, word_in

MARK = (109, 1)
WAYS = ("near", "far")
FIRST_FIGURE = 48
FIRST_LETTER = 97


def name_bytes(name):
    return [len(name)] + [ord(sign) for sign in name]


def section_written(section):
    kind = KINDS.index(section[0]) + (2 if section[2] else 0)
    return [kind] + name_bytes(section[1]) + two_of(len(section[3])) + section[3]


def place_written(place):
    ahead = [place[0]] + two_of(place[1]) + [WAYS.index(place[2])]
    return ahead + name_bytes(place[3]) + two_of(place[4])


def part_bytes(part):
    """A part as a row of bytes."""
    row = list(MARK) + name_bytes(part.name) + [len(part.sections)]
    for section in part.sections:
        row.extend(section_written(section))
    row.append(len(part.wants))
    for name in part.wants:
        row.extend(name_bytes(name))
    row.extend(two_of(len(part.places)))
    for place in part.places:
        row.extend(place_written(place))
    return sealed(row)


def sign_of(number):
    """The letter or the figure of this number; other signs stand in no name."""
    if FIRST_FIGURE <= number < FIRST_FIGURE + len(FIGURES):
        return FIGURES[number - FIRST_FIGURE]
    need(FIRST_LETTER <= number < FIRST_LETTER + len(LETTERS), "no sign of a name has this number")
    return LETTERS[number - FIRST_LETTER]


def name_read(reader):
    name = "".join([sign_of(number) for number in reader.several(reader.byte())])
    need(is_name(name), "a name is none")
    return name


def section_read(reader):
    mark = reader.byte()
    need(mark < 4, "a section is of no kind")
    name = name_read(reader)
    return (KINDS[mark % 2], name, mark >= 2, reader.several(reader.two()))


def sections_read(reader):
    count = reader.byte()
    need(1 <= count <= MOST_SECTIONS, "sections are none or too many")
    return [section_read(reader) for turn in range(count)]


def wants_read(reader):
    count = reader.byte()
    need(count <= MOST_WANTS, "wants are too many")
    return [name_read(reader) for turn in range(count)]


def place_read(reader):
    section = reader.byte()
    offset = reader.two()
    way = reader.byte()
    need(way < 2, "a place is of no way")
    name = name_read(reader)
    return (section, offset, WAYS[way], name, reader.two())


def need_unlike_names(names):
    need(len(set(names)) == len(names), "a name is told twice")


def need_data(row):
    need(len(row) >= 2, "a data has no count")
    count = word_in(row)
    need(1 <= count <= MOST_WORDS, "a data has no words or too many")
    need(len(row) == 2 + 2 * count, "a data has other words than it counts")


def need_code(row):
    starts = starts_in(row)
    need(starts, "a code isn't of operations whole")
    need(word_at(row, starts[-1]) in LAST_WORDS, "a code ends otherwise")
    need(len(row) <= MOST_CODE, "a code has too many bytes")
    for start in starts:
        if word_at(row, start) in TO_LABELS:
            need(near_goal(row, start) in starts, "a label is at no operation")


def places_asked(number, row):
    """Section, offset and way of each place that a code's operations ask for."""
    asked = []
    for start in starts_in(row):
        if way_at(row, start) != "" and word_at(row, start) not in TO_LABELS:
            asked.append((number, start + 1, way_at(row, start)))
    return asked


def need_places(part):
    asked = []
    for number, section in enumerate(part.sections):
        if section[0] == "code":
            asked.extend(places_asked(number, section[3]))
    need([place[:3] for place in part.places] == asked, "places are others than the operations ask for")


def need_noughts(part, place):
    row = part.sections[place[0]][3]
    size = 1 if place[2] == "near" else 2
    need(row[place[1]:place[1] + size] == [0] * size, "a place is filled in")


def need_place_rows(part):
    row = 0
    for place in part.places:
        need(row < place[4] <= MOST_ROWS, "a place's row isn't behind the one ahead")
        row = place[4]


def need_good(part):
    names = [section[1] for section in part.sections] + part.wants
    need_unlike_names(names)
    for section in part.sections:
        if section[0] == "code":
            need_code(section[3])
        else:
            need_data(section[3])
    need_places(part)
    need_place_rows(part)
    for place in part.places:
        need_noughts(part, place)
        need(place[3] in names, "a place's name is neither a section nor wanted")


def part_in(row):
    """The part that is written in a row of bytes."""
    reader = Reader(opened(row))
    reader.need_mark(MARK)
    name = name_read(reader)
    sections = sections_read(reader)
    wants = wants_read(reader)
    places = [place_read(reader) for turn in range(reader.two())]
    reader.need_end()
    part = Part(name, sections, wants, places)
    need_good(part)
    return part
