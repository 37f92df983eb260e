"""The refusals of the program, each a class of its own."""


class YardError(ValueError):
    """Any refusal."""


class BadBytes(YardError):
    """No row of bytes, or not one that is written as it must be."""


class BadCheck(YardError):
    """A row of bytes whose check is another one."""


class BadText(YardError):
    """No text, or not one that is written as it must be."""


class BadBase(YardError):
    """A base at which an image can't stand."""


class BadInput(YardError):
    """Inputs of a run, or a most of its operations, that are none."""


class BadLine(YardError):
    """A line that asks for nothing that can be answered."""


class NoMain(YardError):
    """Nothing that a run could begin with."""


class TooGreat(YardError):
    """More than may be put together."""


class NoPart(YardError):
    """No part of that name."""


class RowError(YardError):
    """A refusal of one row of a part; the part is "" where its name isn't known."""

    def __init__(self, part, line):
        self.part = part
        self.line = line


class BadRow(RowError):
    """A row that may not stand at its place."""


# The four below have no class between them and RowError, though they are alike:
# none of the refusals stands under another but those that the interface tells.


class Lacking(RowError):
    """A name that stands for nothing."""

    def __init__(self, part, line, name):
        RowError.__init__(self, part, line)
        self.name = name


class Twice(RowError):
    """A name that is told a second time."""

    def __init__(self, part, line, name):
        RowError.__init__(self, part, line)
        self.name = name


class WrongKind(RowError):
    """A name that stands for code where data is asked for, or the other way round."""

    def __init__(self, part, line, name):
        RowError.__init__(self, part, line)
        self.name = name


class TooFar(RowError):
    """A goal that a near operation can't reach."""

    def __init__(self, part, line, name):
        RowError.__init__(self, part, line)
        self.name = name
