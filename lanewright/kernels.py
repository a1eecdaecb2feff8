"""KERNELS: what one is, and its rows by their PATHS."""

from lanewright.counts import is_count, least_of
from lanewright.errors import BadKernel, NoSuch
from lanewright.parts import is_one_of, is_row
from lanewright.plans import is_lanes
from lanewright.programs import MOST_NESTS, MOST_STEPS, are_dims, need_head
from lanewright.words import OPS, is_name, is_number, is_whole

MOST_ROWS = 400
REGISTERS = 32
MOST_PATH = 6
MOST_NEARS = 6
MOST_THINGS = 5
MORE_OPS = ("less", "div", "rest")


def need_kernel(sizes, arrays, kernel):
    """None; refuses of anything what is no KERNEL for these SIZES and ARRAYS."""
    need_head(sizes, arrays)
    if not is_row(kernel, 4, 4):
        raise BadKernel(None)
    lanes, count, nears, rows = kernel
    if not is_lanes(lanes):
        raise BadKernel("lanes")
    if not is_count(count, sizes) or least_of(count) < 0:
        raise BadKernel("count")
    if not are_nears(nears, sizes, [array[0] for array in arrays]):
        raise BadKernel("near")
    if not isinstance(rows, tuple):
        raise BadKernel(())
    sides = {name: len(dims) for name, _, dims in arrays}
    for name, dims in nears:
        sides[name] = len(dims)
    need_rows(rows, (), sizes, sides, 0)


def are_nears(thing, sizes, names):
    """Whether anything is NEARS, with no NAMES of ARRAYS."""
    if not is_row(thing, 0, MOST_NEARS):
        return False
    ahead = list(names)
    for near in thing:
        if not is_row(near, 2, 2) or not is_name(near[0]) or near[0] in ahead or not are_dims(near[1], sizes):
            return False
        ahead.append(near[0])
    return True


def need_rows(rows, above, sizes, sides, ahead):
    """How many rows there are with these; refuses of anything what are none.

    Above is the PATH of the row in which they stand, sides a dict from NAMES to how many dims an array has, and
    ahead says how many rows stand ahead of them.
    """
    many = ahead
    for number, row in enumerate(rows):
        path = (*above, number)
        if len(path) > MOST_PATH or many == MOST_ROWS or not is_row_alone(row, sizes, sides):
            raise BadKernel(path)
        many = need_rows(rows_in(row), path, sizes, sides, many + 1)
    return many


def rows_in(row):
    """The ROWS within a row, () of one that can have none."""
    return row[-1] if row[0] in ("loop", "if") else ()


def is_row_alone(thing, sizes, sides):
    """Whether anything is a row of ROWS, whatever rows are within it."""
    if not is_row(thing, 1, MOST_THINGS) or not isinstance(thing[0], str):
        return False
    word, rest = thing[0], thing[1:]
    if word in ("load", "store"):
        return is_move(word, rest, sizes, sides)
    if word == "set":
        return len(rest) == 2 and is_place_for(rest[0]) and is_operand(rest[1], sizes)
    if word == "do":
        good = len(rest) == 4 and (is_one_of(rest[0], OPS) or is_one_of(rest[0], MORE_OPS))
        return good and is_place_for(rest[1]) and are_operands(rest[2:], 2, sizes)
    if word == "loop":
        good = len(rest) == 4 and is_place_for(rest[0]) and are_operands(rest[1:3], 2, sizes)
        return good and isinstance(rest[3], tuple)
    if word == "if":
        return len(rest) == 2 and is_operand(rest[0], sizes) and isinstance(rest[1], tuple)
    return word == "fence" and len(rest) == 0


def is_move(word, rest, sizes, sides):
    """Whether what stands behind "load" or "store" makes a row with it."""
    if len(rest) not in (3, 4):
        return False
    if len(rest) == 4 and not is_source(rest[3]):
        return False
    if word == "load":
        return is_place_for(rest[0]) and is_cell_told(rest[1], rest[2], sizes, sides)
    return is_cell_told(rest[0], rest[1], sizes, sides) and is_operand(rest[2], sizes)


def is_cell_told(name, thing, sizes, sides):
    """Whether anything is an array that is there, and a tuple of operands that tell a CELL of it."""
    return is_one_of(name, sides) and are_operands(thing, sides[name], sizes)


def is_place_for(thing):
    """Whether anything is the number of a register."""
    return is_whole(thing, most=REGISTERS - 1)


def are_operands(thing, many, sizes):
    """Whether anything is a tuple of so many operands."""
    return is_row(thing, many, many) and all([is_operand(part, sizes) for part in thing])


def is_operand(thing, sizes):
    """Whether anything is an operand."""
    if not is_row(thing, 1, 2) or not isinstance(thing[0], str):
        return False
    if len(thing) == 1:
        return thing[0] in ("lane", "group")
    word, about = thing
    if word == "num":
        return is_whole(about)
    if word == "reg":
        return is_place_for(about)
    return word == "size" and is_one_of(about, sizes)


def is_source(thing):
    """Whether anything is a SOURCE."""
    if not is_row(thing, 2, 2) or not is_whole(thing[0], most=MOST_NESTS - 1):
        return False
    return thing[1] is None or is_whole(thing[1], most=MOST_STEPS - 1)


def rows_by_path(kernel):
    """A dict from each PATH of a KERNEL, rising, to its row."""
    return rows_below(kernel[3], ())


def rows_below(rows, above):
    """A dict from the PATHS of rows, and of those in them, rising, to them."""
    found = {}
    for number, row in enumerate(rows):
        path = (*above, number)
        found[path] = row
        within = rows_below(rows_in(row), path)
        for inner in within:
            found[inner] = within[inner]
    return found


def row_at(kernel, path):
    """The row of a KERNEL that has a PATH."""
    if not isinstance(path, tuple) or not all([is_number(number) for number in path]):
        raise NoSuch(path)
    by_path = rows_by_path(kernel)
    if path not in by_path:
        raise NoSuch(path)
    return by_path[path]
