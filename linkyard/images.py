"""An image, written as a row of bytes and read from one."""

from linkyard.checks import opened, sealed
from linkyard.layout import MOST_BYTES, Image
from linkyard.parts import KINDS
from linkyard.readers import Reader, need
from linkyard.words import two_of

MARK = (105, 1)


def image_bytes(image):
    """An image as a row of bytes."""
    row = list(MARK) + two_of(image.main) + two_of(len(image.sections))
    for section in image.sections:
        row.append(KINDS.index(section[0]))
        row.extend(two_of(section[1]))
    row.extend(image.body)
    row.extend(two_of(len(image.far)))
    for place in image.far:
        row.extend(two_of(place))
    return sealed(row)


def section_read(reader):
    kind = reader.byte()
    need(kind < len(KINDS), "a section is of no kind")
    size = reader.two()
    need(size > 0, "a section has no bytes")
    return (KINDS[kind], size)


def need_codes_ahead(sections):
    kinds = [section[0] for section in sections]
    # As texts the kinds rise just as they are laid.
    need(kinds == sorted(kinds), "a code stands behind data")


def size_of(sections):
    return sum([section[1] for section in sections])


def codes_of(sections):
    return [section for section in sections if section[0] == "code"]


def beginnings_of(sections):
    beginnings = []
    place = 0
    for section in sections:
        beginnings.append(place)
        place += section[1]
    return beginnings


def need_far_within(far, size):
    """Far places take two bytes each, all within so many bytes."""
    free = 0
    for place in far:
        need(free <= place and place + 2 <= size, "a far place isn't behind the one ahead, or not within the codes")
        free = place + 2


def image_in(row):
    """The image that is written in a row of bytes."""
    reader = Reader(opened(row))
    reader.need_mark(MARK)
    main = reader.two()
    sections = [section_read(reader) for turn in range(reader.two())]
    need_codes_ahead(sections)
    need(size_of(sections) <= MOST_BYTES, "there are too many bytes")
    body = reader.several(size_of(sections))
    far = [reader.two() for turn in range(reader.two())]
    reader.need_end()
    need(main in beginnings_of(codes_of(sections)), "main is no code's beginning")
    need_far_within(far, size_of(codes_of(sections)))
    return Image(main, sections, body, far)
