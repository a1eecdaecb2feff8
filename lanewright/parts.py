"""What the other files share: forms of things, and the parts of a PROGRAM that is known to be good."""

from lanewright.words import is_number, is_whole


def is_one_of(thing, words):
    """Whether anything is one of some texts."""
    return isinstance(thing, str) and thing in words


def is_row(thing, least, most):
    """Whether anything is a tuple of least to most things."""
    return isinstance(thing, tuple) and least <= len(thing) <= most


def is_same(thing, due):
    """Whether anything is the very tuples, texts and whole numbers that are due."""
    if isinstance(due, tuple):
        return is_row(thing, len(due), len(due)) and all([is_same(part, wanted) for part, wanted in zip(thing, due)])
    # Texts and numbers alone are compared: anything else may not even let itself be compared.
    if isinstance(due, str):
        return isinstance(thing, str) and thing == due
    return is_number(thing) and thing == due


def is_cell(thing, dims):
    """Whether anything is a CELL of an array with dims that are numbers."""
    if not is_row(thing, len(dims), len(dims)):
        return False
    return all([is_whole(spot, most=dim - 1) for spot, dim in zip(thing, dims)])


def are_alike(things):
    """Whether all of a list are equal."""
    return all([thing == things[0] for thing in things])


def multiplied(numbers):
    """All of some numbers multiplied; 1 of none."""
    found = 1
    for number in numbers:
        found = found * number
    return found


def spots_below(dims):
    """A list of all tuples of numbers from 0 to below dims, in rising order."""
    rows = [()]
    for dim in dims:
        rows = [(*row, spot) for row in rows for spot in range(dim)]
    return rows


def sizes_by_name(program, sizes):
    """A dict from the NAMES of SIZES to their numbers."""
    return dict(zip(program[0], sizes))


def arrays_by_name(arrays):
    """A dict from the NAMES of ARRAYS to them."""
    return {array[0]: array for array in arrays}


def loop_counts(loops):
    """A list of the COUNTS of LOOPS."""
    return [loop[1] for loop in loops]


def loads_in(expr):
    """A list of the loads of an EXPR, as they stand."""
    if expr[0] == "at":
        return [("load", expr[1], expr[2])]
    if expr[0] in ("num", "loop"):
        return []
    return loads_in(expr[1]) + loads_in(expr[2])


def step_accesses(step):
    """A list of the ACCESSES of a STEP, in order."""
    word, array, indexes, expr = step
    found = loads_in(expr)
    if word == "add":
        found.append(("load", array, indexes))
    found.append(("store", array, indexes))
    return found


def nest_accesses(nest):
    """A list of pairs (STEP's number, ACCESS) of a nest, in order."""
    return [(number, access) for number, step in enumerate(nest[1]) for access in step_accesses(step)]


def are_bound(one, other):
    """Whether two ACCESSES are of one array, one of both a "store"."""
    return one[1] == other[1] and "store" in (one[0], other[0])


def spots_by_name(loops, spots):
    """A dict from the NAMES of LOOPS to where they are, and from "", which no LOOP is called, to 0."""
    where = {"": 0}
    for loop, spot in zip(loops, spots):
        where[loop[0]] = spot
    return where


def cell_by(indexes, where):
    """The CELL to which INDEXES come where the loops are so."""
    return tuple([where[loop] + more for loop, more in indexes])
