"""PROGRAMS: what one is, and what is asked of its arrays, nests and ACCESSES."""

from lanewright.counts import at_most, counts_at, is_count, least_of, product_of_greatest
from lanewright.errors import BadNumber, BadProgram, BadSizes, NoSuch
from lanewright.parts import (
    arrays_by_name, cell_by, is_one_of, is_row, loop_counts, nest_accesses, sizes_by_name, spots_below, spots_by_name,
)
from lanewright.words import MOST_SIZE, OPS, is_name, is_whole

MOST_CELLS = 4096
MOST_ROUNDS = 2000
MOST_ACCESSES = 24
MOST_SIZES = 3
MOST_ARRAYS = 6
MOST_DIMS = 2
MOST_NESTS = 5
MOST_LOOPS = 3
MOST_STEPS = 4
MOST_MORE = 9
MOST_DEEP = 5
KINDS = ("given", "told", "own")
STEP_WORDS = ("put", "add")


def need_program(thing):
    """None; refuses of anything what is no PROGRAM."""
    if not is_row(thing, 3, 3):
        raise BadProgram(None)
    sizes, arrays, nests = thing
    need_head(sizes, arrays)
    if not is_row(nests, 1, MOST_NESTS):
        raise BadProgram(("nests",))
    for number, nest in enumerate(nests):
        need_nest_form(sizes, arrays, number, nest)


def need_head(sizes, arrays):
    """None; refuses of anything what are no SIZES and ARRAYS."""
    if not are_sizes(sizes):
        raise BadProgram(("sizes",))
    if not is_row(arrays, 1, MOST_ARRAYS):
        raise BadProgram(("array", None))
    ahead = []
    for number, array in enumerate(arrays):
        if not is_array(array, sizes) or array[0] in ahead:
            raise BadProgram(("array", number))
        ahead.append(array[0])


def are_sizes(thing):
    """Whether anything is SIZES."""
    if not is_row(thing, 1, MOST_SIZES) or not all([is_name(name) for name in thing]):
        return False
    return len(set(thing)) == len(thing)


def is_array(thing, sizes):
    """Whether anything is one of ARRAYS, by itself."""
    if not is_row(thing, 3, 3):
        return False
    name, kind, dims = thing
    return is_name(name) and is_one_of(kind, KINDS) and are_dims(dims, sizes)


def are_dims(thing, sizes):
    """Whether anything is DIMS of no more cells than an array may have."""
    if not is_row(thing, 1, MOST_DIMS):
        return False
    if not all([is_count(dim, sizes) and least_of(dim) >= 1 for dim in thing]):
        return False
    return product_of_greatest(thing) <= MOST_CELLS


def need_nest_form(sizes, arrays, number, nest):
    """None; refuses of anything what is no NEST."""
    if not is_nest_pair(nest):
        raise BadProgram(("nest", number, None))
    loops, steps = nest
    ahead = []
    for place, loop in enumerate(loops):
        if not is_loop(loop, sizes) or loop[0] in ahead:
            raise BadProgram(("nest", number, "loop", place))
        ahead.append(loop[0])
    if product_of_greatest(loop_counts(loops)) > MOST_ROUNDS:
        raise BadProgram(("nest", number, "rounds"))
    named = arrays_by_name(arrays)
    counts = dict(loops)
    for place, step in enumerate(steps):
        if not is_step(step, named, counts):
            raise BadProgram(("nest", number, "step", place))
    if len(nest_accesses(nest)) > MOST_ACCESSES:
        raise BadProgram(("nest", number, "accesses"))


def is_nest_pair(thing):
    """Whether anything is a pair of as many LOOPS and STEPS as may be, whatever these are."""
    return is_row(thing, 2, 2) and is_row(thing[0], 1, MOST_LOOPS) and is_row(thing[1], 1, MOST_STEPS)


def is_loop(thing, sizes):
    """Whether anything is one of LOOPS, by itself."""
    if not is_row(thing, 2, 2):
        return False
    name, count = thing
    return is_name(name) and name not in sizes and is_count(count, sizes) and least_of(count) >= 0


def is_step(thing, arrays, counts):
    """Whether anything is a STEP, arrays being a dict of ARRAYS by NAMES, counts of LOOPS' COUNTS."""
    if not is_row(thing, 4, 4) or not is_one_of(thing[0], STEP_WORDS):
        return False
    _, array, indexes, expr = thing
    if not is_place(array, indexes, arrays, counts) or arrays[array][1] == "given":
        return False
    return is_expr(expr, arrays, counts, MOST_DEEP)


def is_place(array, indexes, arrays, counts):
    """Whether anything is an array that is there, and INDEXES by which no ROUND leaves it."""
    if not is_one_of(array, arrays):
        return False
    dims = arrays[array][2]
    if not is_row(indexes, len(dims), len(dims)):
        return False
    return all([is_index(index, dim, counts) for index, dim in zip(indexes, dims)])


def is_index(thing, dim, counts):
    """Whether anything is an INDEX that never comes to dim."""
    if not is_row(thing, 2, 2):
        return False
    loop, more = thing
    if not isinstance(loop, str) or not is_whole(more, most=MOST_MORE):
        return False
    if loop == "":
        return more < least_of(dim)
    if loop not in counts:
        return False
    fixed, terms = counts[loop]
    return at_most((fixed + more, terms), dim)


def is_expr(thing, arrays, counts, deep):
    """Whether anything is an EXPR at most so deep."""
    if deep < 1 or not is_row(thing, 2, 3) or not isinstance(thing[0], str):
        return False
    if len(thing) == 2:
        return is_leaf(thing, counts)
    word, one, other = thing
    if word == "at":
        return is_place(one, other, arrays, counts)
    if word not in OPS:
        return False
    return is_expr(one, arrays, counts, deep - 1) and is_expr(other, arrays, counts, deep - 1)


def is_leaf(pair, counts):
    """Whether a pair is an EXPR: a number, or a LOOP that is there."""
    word, thing = pair
    if word == "num":
        return is_whole(thing)
    return word == "loop" and is_one_of(thing, counts)


def need_nest(program, nest):
    """None; refuses of anything what is no number of a nest."""
    if not is_whole(nest, most=len(program[2]) - 1):
        raise BadNumber(nest)


def need_access(program, nest, access):
    """None; refuses of anything what is no number of an ACCESS of that nest."""
    if not is_whole(access, most=len(nest_accesses(program[2][nest])) - 1):
        raise BadNumber(access)


def need_array(program, name):
    """None; refuses of anything what no array is called."""
    if not is_one_of(name, arrays_by_name(program[1])):
        raise NoSuch(name)


def accesses_of(program, nest):
    """A list of pairs (STEP's number, ACCESS) of a nest, in order."""
    need_program(program)
    need_nest(program, nest)
    return nest_accesses(program[2][nest])


def loops_of(program, nest):
    """The LOOPS of a nest."""
    need_program(program)
    need_nest(program, nest)
    return program[2][nest][0]


def are_like(program, nest, other):
    """Whether LOOPS of two nests are LIKE."""
    need_program(program)
    need_nest(program, nest)
    need_nest(program, other)
    return program[2][nest][0] == program[2][other][0]


def array_of(program, name):
    """The one of ARRAYS with that NAME."""
    need_program(program)
    need_array(program, name)
    return arrays_by_name(program[1])[name]


def cell_at(program, nest, access, spots):
    """The CELL to which an ACCESS comes where the loops are at spots."""
    need_program(program)
    need_nest(program, nest)
    need_access(program, nest, access)
    loops = program[2][nest][0]
    need_spots(loops, spots)
    indexes = nest_accesses(program[2][nest])[access][1][2]
    return cell_by(indexes, spots_by_name(loops, spots))


def need_spots(loops, spots):
    """None; refuses of anything what can't tell where LOOPS are, whether that ROUND is there or not."""
    if not is_row(spots, len(loops), len(loops)) or not all([is_whole(spot, most=MOST_ROUNDS) for spot in spots]):
        raise BadNumber(spots)


def need_sizes(program, sizes):
    """None; refuses of anything what can't stand for the SIZES of a PROGRAM."""
    need_program(program)
    need_sizes_by(program[0], sizes)


def need_sizes_by(names, sizes):
    """None; refuses of anything what can't stand for SIZES of these NAMES."""
    if not is_row(sizes, len(names), len(names)):
        raise BadSizes(None)
    for number, size in enumerate(sizes):
        if not is_whole(size, least=1, most=MOST_SIZE):
            raise BadSizes(number)


def dims_at(program, name, sizes):
    """A tuple of what the DIMS of an array are."""
    need_sizes(program, sizes)
    need_array(program, name)
    return counts_at(arrays_by_name(program[1])[name][2], sizes_by_name(program, sizes))


def cells_at(program, name, sizes):
    """A rising list of all CELLS of an array."""
    return spots_below(dims_at(program, name, sizes))


def rounds_at(program, nest, sizes):
    """A rising list of all ROUNDS of a nest."""
    need_sizes(program, sizes)
    need_nest(program, nest)
    return nest_rounds(program[2][nest], sizes_by_name(program, sizes))


def nest_rounds(nest, named):
    """A rising list of all ROUNDS of a nest, by a dict of sizes."""
    return spots_below(counts_at(loop_counts(nest[0]), named))
