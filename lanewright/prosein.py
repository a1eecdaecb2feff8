"""PROGRAMS, COUNTS, TURNS, PLANS and KERNELS read from their texts."""

from lanewright.kernels import MORE_OPS, MOST_NEARS, MOST_PATH, MOST_ROWS
from lanewright.plans import MOST_LANES, PLAN_USES
from lanewright.programs import (
    KINDS, MOST_ARRAYS, MOST_DEEP, MOST_LOOPS, MOST_NESTS, MOST_SIZES, MOST_STEPS, STEP_WORDS, need_nest, need_program,
)
from lanewright.reader import Reader, cell_of, leaf_of, names_of
from lanewright.words import OPS

TURN_WORDS = ("fuse", "split", "swap", "part")
ROW_WORDS = ("set", "do", "load", "store", "loop", "if", "fence")
NESTING = ("loop", "if")


def read_rows(reader, words, most, read):
    """A tuple of one to most things that read makes of rows, each of which begins with one of these words."""
    found = [read(reader)]
    while len(found) < most and reader.seen() in words:
        found.append(read(reader))
    return tuple(found)


def read_counts(reader):
    """A tuple of one or two COUNTS, with which the row ends."""
    found = [reader.take_count()]
    if reader.has_word():
        found.append(reader.take_count())
    reader.end_row()
    return tuple(found)


def program_in(text):
    """The tuple of three that a PROGRAM's text tells."""
    reader = Reader(text)
    sizes = read_sizes(reader)
    arrays = read_rows(reader, ("array",), MOST_ARRAYS, read_array)
    nests = read_rows(reader, ("nest",), MOST_NESTS, read_nest)
    reader.end_text()
    return sizes, arrays, nests


def read_sizes(reader):
    """SIZES, from their row."""
    reader.take_one_of(("sizes",))
    found = [reader.take_name()]
    while reader.has_word() and len(found) < MOST_SIZES:
        found.append(reader.take_name())
    reader.end_row()
    return tuple(found)


def read_array(reader):
    """One of ARRAYS, from its row."""
    reader.take_one_of(("array",))
    name = reader.take_name()
    kind = reader.take_one_of(KINDS)
    return name, kind, read_counts(reader)


def read_nest(reader):
    """A NEST, from its rows."""
    reader.take_one_of(("nest",))
    reader.end_row()
    return read_rows(reader, ("loop",), MOST_LOOPS, read_loop), read_rows(reader, STEP_WORDS, MOST_STEPS, read_step)


def read_loop(reader):
    """One of LOOPS, from its row."""
    reader.take_one_of(("loop",))
    name = reader.take_name()
    count = reader.take_count()
    reader.end_row()
    return name, count


def read_step(reader):
    """A STEP, from its row."""
    word = reader.take_one_of(STEP_WORDS)
    array, indexes = reader.take(cell_of(reader.seen()))
    expr = read_expr(reader, MOST_DEEP)
    reader.end_row()
    return word, array, indexes, expr


def read_expr(reader, deep):
    """An EXPR at most so deep."""
    word = reader.seen()
    if deep < 1:
        return reader.take(None)
    if word not in OPS:
        return reader.take(leaf_of(word))
    reader.take(word)
    one = read_expr(reader, deep - 1)
    other = read_expr(reader, deep - 1)
    return word, one, other


def count_in(text):
    """The COUNT that a text tells."""
    reader = Reader(text)
    count = reader.take_count()
    reader.end_row()
    reader.end_text()
    return count


def turn_in(text):
    """The TURN that a text tells."""
    reader = Reader(text)
    word = reader.take_one_of(TURN_WORDS)
    found = [word, reader.take_number(0, MOST_NESTS - 1)]
    if word == "split":
        found.append(reader.take_number(1, MOST_STEPS - 1))
    elif word == "swap":
        order = [reader.take_number(0, MOST_LOOPS - 1)]
        while reader.has_word() and len(order) < MOST_LOOPS:
            order.append(reader.take_number(0, MOST_LOOPS - 1))
        found.append(tuple(order))
    reader.end_row()
    reader.end_text()
    return tuple(found)


def plan_in(program, nest, text):
    """The PLAN of a nest that a text tells."""
    need_program(program)
    need_nest(program, nest)
    reader = Reader(text)
    reader.take_one_of(("plan",))
    loops = [loop[0] for loop in program[2][nest][0]]
    word = reader.seen()
    found = [reader.take(loops.index(word) if word in loops else None), reader.take_number(1, MOST_LANES)]
    for use in PLAN_USES:
        names = ()
        if reader.seen() == use:
            reader.take(use)
            names = reader.take(names_of(reader.seen()))
        found.append(names)
    reader.end_row()
    reader.end_text()
    return tuple(found)


def kernel_in(text):
    """The KERNEL that a text tells."""
    reader = Reader(text)
    reader.take_one_of(("kernel",))
    lanes = reader.take_number(1, MOST_LANES)
    count = reader.take_count()
    reader.end_row()
    nears = []
    while reader.seen() == "near" and len(nears) < MOST_NEARS:
        reader.take("near")
        nears.append((reader.take_name(), read_counts(reader)))
    return lanes, count, tuple(nears), gathered(read_flat(reader), 0, 0)[0]


def read_flat(reader):
    """A list of pairs of how deep each row stands, and the row without those within it."""
    flat = []
    most = 0
    while reader.row < len(reader.rows):
        deep = 0
        while reader.seen() == ".":
            reader.take("." if deep < most else None)
            deep += 1
        row = read_row(reader, len(flat) < MOST_ROWS)
        reader.end_row()
        flat.append((deep, row))
        most = min(deep + 1, MOST_PATH - 1) if row[0] in NESTING else deep
    return flat


def gathered(flat, start, deep):
    """A pair of the ROWS so deep that begin at start, and where they end."""
    rows = []
    spot = start
    while spot < len(flat) and flat[spot][0] == deep:
        row = flat[spot][1]
        spot += 1
        if row[0] in NESTING:
            inner, spot = gathered(flat, spot, deep + 1)
            row = (*row, inner)
        rows.append(row)
    return tuple(rows), spot


def read_row(reader, may_come):
    """A row of ROWS without those within it, if any may come."""
    word = reader.take_one_of(ROW_WORDS if may_come else ())
    if word == "set":
        return word, reader.take_register(), reader.take_operand()
    if word == "do":
        op = reader.take_one_of(OPS + MORE_OPS)
        return word, op, reader.take_register(), reader.take_operand(), reader.take_operand()
    if word == "loop":
        return word, reader.take_register(), reader.take_operand(), reader.take_operand()
    if word == "if":
        return word, reader.take_operand()
    if word == "load":
        place, name = reader.take_register(), reader.take_name()
        return (word, place, name, tuple(read_operands(reader, 1)), *read_source(reader))
    if word == "store":
        name = reader.take_name()
        operands = read_operands(reader, 2)
        return (word, name, tuple(operands[:-1]), operands[-1], *read_source(reader))
    return (word,)


def read_operands(reader, least):
    """A list of so many operands, or of one more."""
    found = [reader.take_operand() for _ in range(least)]
    if reader.has_word() and reader.seen() != "at":
        found.append(reader.take_operand())
    return found


def read_source(reader):
    """A list of a SOURCE, or of nothing where the row ends."""
    if not reader.has_word():
        return []
    reader.take_one_of(("at",))
    nest = reader.take_number(0, MOST_NESTS - 1)
    if reader.seen() == "-":
        reader.take("-")
        return [(nest, None)]
    return [(nest, reader.take_number(0, MOST_STEPS - 1))]
