"""Bytes, words, names, written numbers, and rows of bytes as texts."""

from linkyard.errors import BadBytes, BadText

FIGURES = "0123456789"
SIXTEENS = "0123456789abcdef"
LETTERS = "abcdefghijklmnopqrstuvwxyz"
MOST_BYTE = 255
MOST_WORD = 65535
NAME_SIGNS = 8
SHOWN_IN_ROW = 16


def is_number_up_to(thing, most):
    # isinstance takes True and False for whole numbers; here they are none.
    return isinstance(thing, int) and not isinstance(thing, bool) and 0 <= thing <= most


def is_byte(thing):
    return is_number_up_to(thing, MOST_BYTE)


def is_word(thing):
    return is_number_up_to(thing, MOST_WORD)


def is_name(thing):
    if not isinstance(thing, str) or not 1 <= len(thing) <= NAME_SIGNS:
        return False
    return thing[0] in LETTERS and all([sign in LETTERS or sign in FIGURES for sign in thing])


def need_bytes(thing):
    """The same row of bytes in a new list."""
    if not isinstance(thing, list):
        raise BadBytes("a row of bytes is a list")
    row = list(thing)
    if not all([is_byte(byte) for byte in row]):
        raise BadBytes("a row of bytes holds numbers from 0 to 255 alone")
    return row


def number_by(figures, text):
    """The number that a text writes by these figures, None where another sign stands in it."""
    number = 0
    for sign in text:
        worth = figures.find(sign)
        if worth < 0:
            return None
        number = number * len(figures) + worth
    return number


def number_by_tens(text):
    # More than five figures are no word; looking at the length first keeps long texts cheap.
    if not 1 <= len(text) <= 5 or (text[0] == "0" and len(text) > 1):
        return None
    number = number_by(FIGURES, text)
    return number if is_word(number) else None


def number_in(text):
    """The number that a text writes, None of all else."""
    if not isinstance(text, str):
        return None
    if text[:1] == "x":
        return number_by(SIXTEENS, text[1:]) if len(text) == 5 else None
    return number_by_tens(text)


def two_of(number):
    """A word as a list of two bytes, the highest first."""
    return [number // 256, number % 256]


def word_in(row, place=0):
    """The word that two bytes from a place on tell."""
    return row[place] * 256 + row[place + 1]


def byte_figures(byte):
    return SIXTEENS[byte // 16] + SIXTEENS[byte % 16]


def sixteens(number):
    """A word as x and four figures."""
    return "x" + "".join([byte_figures(byte) for byte in two_of(number)])


def shown(row):
    """A row of bytes as a text, sixteen bytes to a row of it."""
    pairs = [byte_figures(byte) for byte in row]
    rows = [pairs[start:start + SHOWN_IN_ROW] for start in range(0, len(pairs), SHOWN_IN_ROW)]
    return "\n".join([" ".join(pairs_of_row) for pairs_of_row in rows])


def hidden(text):
    """The row of bytes that is shown so."""
    if not isinstance(text, str):
        raise BadText("what is shown is a text")
    row = [number_by(SIXTEENS, text[start:start + 2]) for start in range(0, len(text), 3)]
    # Showing it again finds every blank, line end and lacking figure that stands amiss.
    if None in row or shown(row) != text:
        raise BadText("no row of bytes is shown so")
    return row
