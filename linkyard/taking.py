"""A part's text, taken row by row to a draft; what its goals lead to is looked at behind it."""

from linkyard.errors import BadRow, BadText, Twice
from linkyard.ops import LAST_WORDS, op_in
from linkyard.parts import MOST_CODE, MOST_ROWS, MOST_SECTIONS, MOST_WANTS, MOST_WORDS
from linkyard.words import is_name, number_in


class Section:
    """A section as its rows tell it: a code has operations and labels, a data has words."""

    def __init__(self, kind, name, line):
        self.kind = kind
        self.name = name
        self.line = line
        self.ops = []
        self.lines = []
        self.labels = {}
        self.label_lines = {}
        self.numbers = []


class Draft:
    """A part as its rows tell it; its name is "" as long as none was told."""

    def __init__(self):
        self.name = ""
        self.shared = []
        self.shared_lines = []
        self.wants = []
        self.sections = []


def is_text(thing):
    """Whether a thing is a text: signs from the blank to ~ and line ends."""
    return isinstance(thing, str) and all([" " <= sign <= "~" or sign == "\n" for sign in thing])


def need_rows(text):
    if not is_text(text):
        raise BadText("a part is told by a text")
    rows = text.split("\n")
    if len(rows) > MOST_ROWS:
        raise BadText("a part has at most 600 rows")
    return rows


def words_of(row):
    return row.partition("#")[0].split()


def is_named(words, firsts):
    """Whether a row is one of these words and a name."""
    return len(words) == 2 and words[0] in firsts and is_name(words[1])


def take_part(draft, words, line):
    if not is_named(words, ("part",)):
        raise BadRow("", line)
    draft.name = words[1]


def take_shared(draft, name, line):
    if name in draft.shared:
        raise Twice(draft.name, line, name)
    draft.shared.append(name)
    draft.shared_lines.append(line)


def take_wanted(draft, name, line):
    if len(draft.wants) == MOST_WANTS:
        raise BadRow(draft.name, line)
    if name in draft.wants:
        raise Twice(draft.name, line, name)
    draft.wants.append(name)


def take_ahead(draft, words, line):
    """A row ahead of the first section."""
    if not is_named(words, ("shared", "wants")):
        raise BadRow(draft.name, line)
    if words[0] == "shared":
        take_shared(draft, words[1], line)
    else:
        take_wanted(draft, words[1], line)


def take_section(draft, kind, name, line):
    end_section(draft)
    if len(draft.sections) == MOST_SECTIONS:
        raise BadRow(draft.name, line)
    if name in draft.wants or name in [section.name for section in draft.sections]:
        raise Twice(draft.name, line, name)
    draft.sections.append(Section(kind, name, line))


def take_label(draft, section, label, line):
    if label in section.labels:
        raise Twice(draft.name, line, label)
    section.labels[label] = len(section.ops)
    section.label_lines[label] = line


def take_op(draft, section, words, line):
    op = op_in(words)
    if op is None:
        raise BadRow(draft.name, line)
    section.ops.append(op)
    section.lines.append(line)


def take_word(draft, section, words, line):
    number = number_in(words[1]) if len(words) == 2 and words[0] == "word" else None
    if number is None or len(section.numbers) == MOST_WORDS:
        raise BadRow(draft.name, line)
    section.numbers.append(number)


def take_within(draft, words, line):
    """A row of the section that was begun last."""
    section = draft.sections[-1]
    if section.kind == "data":
        take_word(draft, section, words, line)
    elif is_named(words, ("at",)):
        take_label(draft, section, words[1], line)
    else:
        take_op(draft, section, words, line)


def take_row(draft, words, line):
    if draft.name == "":
        take_part(draft, words, line)
    elif is_named(words, ("code", "data")):
        take_section(draft, words[0], words[1], line)
    elif not draft.sections:
        take_ahead(draft, words, line)
    else:
        take_within(draft, words, line)


def end_code(part, section):
    if section.ops[-1].word() not in LAST_WORDS:
        raise BadRow(part, section.lines[-1])
    if sum([op.size() for op in section.ops]) > MOST_CODE:
        raise BadRow(part, section.lines[-1])
    for label in section.labels:
        if section.labels[label] == len(section.ops):
            raise BadRow(part, section.label_lines[label])


def end_section(draft):
    """What is wrong with the section that was begun last is seen when it ends."""
    if not draft.sections:
        return
    section = draft.sections[-1]
    if not section.ops and not section.numbers:
        raise BadRow(draft.name, section.line)
    if section.kind == "code":
        end_code(draft.name, section)


def taken(text):
    """The draft that the rows of a text tell."""
    rows = need_rows(text)
    draft = Draft()
    for number, row in enumerate(rows, start=1):
        words = words_of(row)
        if words:
            take_row(draft, words, number)
    end_section(draft)
    if not draft.sections:
        raise BadRow(draft.name, len(rows))
    return draft
