"""Rows of words, assembled to a part."""

from linkyard.errors import Lacking, TooFar
from linkyard.ops import TO_LABELS, is_near, near_byte
from linkyard.parts import Part
from linkyard.taking import taken
from linkyard.words import two_of


def offsets_of(section):
    """Where each operation of a code begins, and behind these where it ends."""
    offsets = [0]
    for op in section.ops:
        offsets.append(offsets[-1] + op.size())
    return offsets


def label_distance(section, offsets, number):
    """How far the goal of a go or an ifnot is from the byte behind it."""
    goal = section.labels[section.ops[number].goal()]
    return offsets[goal] - offsets[number + 1]


def need_label(part, section, offsets, number):
    goal = section.ops[number].goal()
    line = section.lines[number]
    if goal not in section.labels:
        raise Lacking(part, line, goal)
    if not is_near(label_distance(section, offsets, number)):
        raise TooFar(part, line, goal)


def need_code_goals(draft, section, known):
    offsets = offsets_of(section)
    for number, op in enumerate(section.ops):
        if op.word() in TO_LABELS:
            need_label(draft.name, section, offsets, number)
        elif op.way() != "" and op.goal() not in known:
            raise Lacking(draft.name, section.lines[number], op.goal())


def need_goals(draft):
    """Shared rows stand ahead of all sections, so they are looked at first."""
    own = [section.name for section in draft.sections]
    for number, name in enumerate(draft.shared):
        if name not in own:
            raise Lacking(draft.name, draft.shared_lines[number], name)
    for section in draft.sections:
        need_code_goals(draft, section, own + draft.wants)


def drafted(text):
    """The draft of a text in which nothing is wrong."""
    draft = taken(text)
    need_goals(draft)
    return draft


def data_bytes(section):
    row = two_of(len(section.numbers))
    for number in section.numbers:
        row.extend(two_of(number))
    return row


def code_bytes(section):
    offsets = offsets_of(section)
    row = []
    for number, op in enumerate(section.ops):
        told = op.told()
        if op.word() in TO_LABELS:
            told[1] = near_byte(label_distance(section, offsets, number))
        row.extend(told)
    return row


def section_bytes(section):
    return code_bytes(section) if section.kind == "code" else data_bytes(section)


def places_in(section, section_number):
    """The places of a section where a goal is to be filled in."""
    offsets = offsets_of(section)
    places = []
    for number, op in enumerate(section.ops):
        if op.way() != "" and op.word() not in TO_LABELS:
            places.append((section_number, offsets[number] + 1, op.way(), op.goal(), section.lines[number]))
    return places


def part_of(draft):
    """The part that a draft tells in which nothing is wrong."""
    sections = []
    places = []
    for number, section in enumerate(draft.sections):
        sections.append((section.kind, section.name, section.name in draft.shared, section_bytes(section)))
        places.extend(places_in(section, number))
    return Part(draft.name, sections, draft.wants, places)


def assembled(text):
    """The part that a text tells."""
    return part_of(drafted(text))
