"""What several tests need: how a refusal is looked at, texts of parts, and things of other kinds."""

NO_TEXTS = [None, True, False, 0, 7, -1, 1.5, b"", b"part a", bytearray(b"part a"), [], ["part a"], (), ("part a",),
            {}, {"part": "a"}, set(), object(), str, len]
NO_LISTS = [True, False, 0, 7, 1.5, "", "abc", b"", b"\x01\x02", bytearray(b"\x01"), (), (1, 2), {}, {1: 2}, set(),
            range(3), object(), list, len]
NO_NUMBERS = [True, False, None, "", "0", "7", 0.0, 7.0, float("nan"), [], [7], (), (7,), {}, set(), b"\x07", object(),
              int, len]


def told_of(refusal):
    """A refusal as a tuple: its class's name, and its part, line and name as far as it has these."""
    told = (type(refusal).__name__,)
    for field in ["part", "line", "name"]:
        if hasattr(refusal, field):
            told += (getattr(refusal, field),)
    return told


def refusal_of(call, *things):
    """What a call is refused with, as told_of tells it; None where it is not refused."""
    from linkyard.errors import YardError
    try:
        call(*things)
    except YardError as refusal:
        return told_of(refusal)
    return None


def rows(*texts):
    return "\n".join(texts)


def fields_of(part):
    return (part.name, part.sections, part.wants, part.places)


def image_fields(image):
    return (image.main, image.sections, image.body, image.far)
