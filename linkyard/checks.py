"""The check of a row of bytes, and rows that carry it."""

from linkyard.errors import BadBytes, BadCheck
from linkyard.words import need_bytes, two_of, word_in

FIRST_CHECK = 65535
LAID_OVER = 4129


def one_bit_left(check):
    moved = check * 2
    if moved < 65536:
        return moved
    return (moved - 65536) ^ LAID_OVER


def check_of(row):
    """The check of a row of bytes, a word."""
    check = FIRST_CHECK
    for byte in row:
        check = check ^ (byte * 256)
        for turn in range(8):
            check = one_bit_left(check)
    return check


def sealed(row):
    """A new list: the row, and the two bytes of its check behind it."""
    return list(row) + two_of(check_of(row))


def opened(row):
    """What was sealed."""
    whole = need_bytes(row)
    if len(whole) < 2:
        raise BadBytes("a sealed row has two bytes at least")
    inner = whole[:-2]
    if check_of(inner) != word_in(whole, len(inner)):
        raise BadCheck("the check of this row is another one")
    return inner
