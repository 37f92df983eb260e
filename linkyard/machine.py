"""An image, run by its bytes at a base."""

from linkyard.doing import Doing, Ground, need_inputs, to_the_end
from linkyard.loading import loaded
from linkyard.ops import near_goal, size_at, way_at, word_at
from linkyard.words import two_of, word_in


class Memory(Ground):
    """The bytes of an image that was loaded; a place is one of them, the first being 0."""

    def __init__(self, image, base):
        self.store = loaded(image, base)
        self.base = base

    def named_at(self, place):
        """The number or the goal that the operation at a place names, None of others."""
        way = way_at(self.store, place)
        size = size_at(self.store, place)
        if way == "near":
            return near_goal(self.store, place)
        if way == "far":
            return word_in(self.store, place + 1) - self.base
        if size == 3:
            return word_in(self.store, place + 1)
        return self.store[place + 1] if size == 2 else None

    def seen(self, place):
        return (word_at(self.store, place), self.named_at(place), place + size_at(self.store, place))

    def room(self, data):
        return word_in(self.store, data)

    def kept(self, data, number):
        return word_in(self.store, data + 2 + 2 * number)

    def keep(self, data, number, word):
        place = data + 2 + 2 * number
        two = two_of(word)
        self.store[place] = two[0]
        self.store[place + 1] = two[1]


class Machine(Doing):
    """A run of an image at a base."""

    def __init__(self, image, base=0, inputs=None, most=1000):
        memory = Memory(image, base)
        Doing.__init__(self, memory, image.main, need_inputs(inputs, most), most)


def run(image, base=0, inputs=None, most=1000):
    """The told words, the end, and how many operations were done."""
    return to_the_end(Machine(image, base, inputs, most))
