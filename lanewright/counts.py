"""COUNTS: numbers told by sizes."""

from lanewright.parts import is_one_of, is_row, multiplied
from lanewright.words import MOST_SIZE, is_whole

MOST_FIXED = 20
MOST_TERMS = 3
MOST_TIMES = 3


def is_count(thing, names):
    """Whether anything is a COUNT by sizes of these names."""
    if not is_row(thing, 2, 2):
        return False
    fixed, terms = thing
    return is_whole(fixed, least=-MOST_FIXED, most=MOST_FIXED) and are_terms(terms, names)


def are_terms(thing, names):
    """Whether anything is a tuple of TERMS by sizes of these names."""
    if not is_row(thing, 0, MOST_TERMS):
        return False
    last = ""
    for term in thing:
        if not is_term(term, names) or term[0] <= last:
            return False
        last = term[0]
    return True


def is_term(thing, names):
    """Whether anything is a pair of one of these names and how often it counts."""
    return is_row(thing, 2, 2) and is_one_of(thing[0], names) and is_whole(thing[1], least=1, most=MOST_TIMES)


def count_at(count, sizes):
    """What a COUNT is by sizes, a dict from NAMEs to numbers."""
    fixed, terms = count
    return fixed + sum([times * sizes[name] for name, times in terms])


def counts_at(counts, sizes):
    """A tuple of what some COUNTS are."""
    return tuple([count_at(count, sizes) for count in counts])


def least_of(count):
    """What a COUNT is where all sizes are 1."""
    fixed, terms = count
    return fixed + sum([term[1] for term in terms])


def greatest_of(count):
    """What a COUNT is where all sizes are the greatest."""
    fixed, terms = count
    return fixed + MOST_SIZE * sum([term[1] for term in terms])


def product_of_greatest(counts):
    """All of some COUNTS multiplied, where all sizes are the greatest."""
    return multiplied([greatest_of(count) for count in counts])


def times_more(count, other):
    """A dict from the names of two COUNTS to how often more each counts in the first one."""
    more = {}
    for name, times in count[1]:
        more[name] = times
    for name, times in other[1]:
        more[name] = more.get(name, 0) - times
    return more


def most_by(times):
    """The most that comes of a size that counts so often."""
    return max(times, times * MOST_SIZE)


def most_apart(count, other):
    """How much more than the other one a COUNT is where that is most."""
    more = times_more(count, other)
    return count[0] - other[0] + sum([most_by(times) for times in more.values()])


def at_most(count, other):
    """Whether a COUNT is at most the other one, whatever the sizes."""
    return most_apart(count, other) <= 0


def worst_sizes(count, other, names):
    """The first sizes of names, in rising order, by which a COUNT is more than the other one; None without any."""
    rest = most_apart(count, other)
    if rest <= 0:
        return None
    more = times_more(count, other)
    found = []
    for name in names:
        times = more.get(name, 0)
        # Names behind this one still count at their best in rest, so no lesser size can be mended later.
        rest = rest - most_by(times)
        size = least_size(rest, times)
        rest = rest + times * size
        found.append(size)
    return tuple(found)


def least_size(rest, times):
    """The least size by which rest and the size, counted so often, come to more than 0; there is one."""
    size = 1
    while rest + times * size <= 0:
        size += 1
    return size
