"""An image, loaded at a base."""

from linkyard.errors import BadBase
from linkyard.words import MOST_WORD, is_number_up_to, two_of, word_in


def loaded(image, base=0):
    """The bytes of an image as they stand from a base on."""
    if not is_number_up_to(base, MOST_WORD + 1 - len(image.body)):
        raise BadBase("a base is a number by which no byte stands beyond 65535")
    row = list(image.body)
    for place in image.far:
        moved = two_of(word_in(row, place) + base)
        row[place] = moved[0]
        row[place + 1] = moved[1]
    return row
