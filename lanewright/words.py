"""WORDS, NAMES, and what is reckoned of two WORDS."""

from lanewright.errors import NoSuch

MOST_SIZE = 12
WORDS = 65536
OPS = ("add", "sub", "mul", "min", "max")
MOST_LETTERS = 8
LETTERS = "abcdefghijklmnopqrstuvwxyz"


def is_number(thing):
    """Whether anything is a whole number, however great or small."""
    return isinstance(thing, int) and not isinstance(thing, bool)


def is_whole(thing, *, least=0, most=WORDS - 1):
    """Whether anything is a whole number from least to most."""
    return is_number(thing) and least <= thing <= most


def is_name(thing):
    """Whether anything is a NAME."""
    if not isinstance(thing, str) or not 1 <= len(thing) <= MOST_LETTERS:
        return False
    return all([letter in LETTERS for letter in thing])


def reckoned(op, one, other):
    """The WORD that an OP makes of two."""
    # What is no text is refused ahead of any comparison, since anything may be handed in.
    if not isinstance(op, str) or op not in OPS:
        raise NoSuch(op)
    if op == "add":
        return (one + other) % WORDS
    if op == "sub":
        return (one - other) % WORDS
    if op == "mul":
        return (one * other) % WORDS
    if op == "min":
        return min(one, other)
    return max(one, other)
