"""A yard, asked by lines of text."""

from linkyard.errors import (BadBase, BadInput, BadLine, BadRow, BadText, Lacking, NoMain, NoPart, RowError, TooGreat,
                             Twice, WrongKind, YardError)
from linkyard.taking import is_text
from linkyard.words import is_name, number_in, shown
from linkyard.yard import Yard

PUT = "put "
SHELVE = "shelve "
BETWEEN_ROWS = " ; "
DONE = "done"


def plain_word(refusal):
    """The name of a refusal's class in small letters, of those that tell no row."""
    if isinstance(refusal, BadText):
        return "badtext"
    if isinstance(refusal, BadBase):
        return "badbase"
    if isinstance(refusal, BadInput):
        return "badinput"
    if isinstance(refusal, NoMain):
        return "nomain"
    if isinstance(refusal, TooGreat):
        return "toogreat"
    return "nopart" if isinstance(refusal, NoPart) else "badline"


def named_word(refusal):
    """The same of those that tell a name besides their row."""
    if isinstance(refusal, Lacking):
        return "lacking"
    if isinstance(refusal, Twice):
        return "twice"
    return "wrongkind" if isinstance(refusal, WrongKind) else "toofar"


def refused(refusal):
    """The answer to a line that was refused."""
    if not isinstance(refusal, RowError):
        return "refused " + plain_word(refusal)
    part = "-" if refusal.part == "" else refusal.part
    where = part + " " + str(refusal.line)
    if isinstance(refusal, BadRow):
        return "refused badrow " + where
    return "refused " + named_word(refusal) + " " + where + " " + refusal.name


def text_in(rows):
    return rows.replace(BETWEEN_ROWS, "\n")


def run_by(yard, words):
    """The answer to a run whose base and inputs these words write."""
    numbers = [number_in(word) for word in words]
    if None in numbers:
        raise BadLine("a number is none")
    told = yard.run(numbers[0], numbers[1:])
    return " ".join([told[1], str(told[2])] + [str(word) for word in told[0]])


def answer_by_words(yard, words):
    """The answer to a line that has no rows in it."""
    if words == ["parts"]:
        return " ".join(yard.parts())
    if words == ["link"]:
        yard.link()
        return DONE
    if words == ["image"]:
        return shown(yard.image())
    if len(words) == 2 and words[0] == "take" and is_name(words[1]):
        yard.take(words[1])
        return DONE
    if len(words) >= 2 and words[0] == "run":
        return run_by(yard, words[1:])
    raise BadLine("a line asks for nothing that there is")


def answer_to(yard, line):
    if not is_text(line) or "\n" in line:
        raise BadLine("a line is a text without line ends")
    if line.startswith(PUT):
        return yard.put(text_in(line[len(PUT):]))
    if line.startswith(SHELVE):
        yard.shelve(text_in(line[len(SHELVE):]))
        return DONE
    # Just one blank stands between words, so two of them part off a word that is none.
    return answer_by_words(yard, line.split(" "))


def answer(yard, line):
    """What a yard answers to a line."""
    try:
        return answer_to(yard, line)
    except YardError as refusal:
        return refused(refusal)


def play(lines):
    """The answers of a new yard to lines."""
    yard = Yard()
    return [answer(yard, line) for line in lines]
