"""Texts of parts, run by their rows alone."""

from linkyard.assembling import drafted, part_of
from linkyard.doing import Doing, Ground, need_inputs, to_the_end
from linkyard.joining import goal_of, need_joined, need_kinds
from linkyard.layout import shared_of
from linkyard.ops import TO_LABELS, Push, Small

# A call or a hop goes to the first operation of a code.
FIRST = 0


def named_by(op, part, section, shared):
    """The number or the goal that an operation names, None of others."""
    if isinstance(op, (Small, Push)):
        return op.number
    if op.word() in TO_LABELS:
        return ((part.name, section.name), section.labels[op.goal()])
    if op.goal() == "":
        return None
    goal = goal_of(part, op.goal(), shared)
    return (goal, FIRST)


def code_told(part, section, shared):
    return [(op.word(), named_by(op, part, section, shared)) for op in section.ops]


class Rows(Ground):
    """Operations and data as rows tell them; a place is the names of a part and a section, and a number in it."""

    def __init__(self, drafts, parts):
        self.codes = {}
        self.tables = {}
        shared = shared_of(parts)
        for draft, part in zip(drafts, parts):
            for section in draft.sections:
                self.codes[(part.name, section.name)] = code_told(part, section, shared)
                self.tables[(part.name, section.name)] = list(section.numbers)

    def seen(self, place):
        told = self.codes[place[0]][place[1]]
        return (told[0], told[1], (place[0], place[1] + 1))

    def room(self, data):
        return len(self.tables[data[0]])

    def kept(self, data, number):
        return self.tables[data[0]][number]

    def keep(self, data, number, word):
        self.tables[data[0]][number] = word


def walked(texts, inputs=None, most=1000):
    """The told words, the end, and how many operations were done."""
    drafts = [drafted(text) for text in texts]
    parts = [part_of(draft) for draft in drafts]
    need_joined(parts)
    need_kinds(parts)
    given = need_inputs(inputs, most)
    first = (shared_of(parts)["main"], FIRST)
    return to_the_end(Doing(Rows(drafts, parts), first, given, most))
