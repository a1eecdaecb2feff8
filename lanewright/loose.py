"""FREE loops, which lanes may have, and the papers that show it; TIES of a nest."""

from lanewright.errors import BadNumber, BadPaper
from lanewright.meetings import all_binds, is_ring, least_meeting, plain_patterns, ring_of
from lanewright.parts import are_bound, is_row, is_same, nest_accesses
from lanewright.programs import need_nest, need_program
from lanewright.words import is_whole

UNLIKE_SIGNS = ("<", ">")


def need_loop(program, nest, loop):
    """None; refuses of anything what is no number of a loop of a nest."""
    need_program(program)
    need_nest(program, nest)
    if not is_whole(loop, most=len(program[2][nest][0]) - 1):
        raise BadNumber(loop)


def bound_pairs(nest):
    """A rising list of the pairs of numbers of ACCESSES that may keep a nest's loops from being FREE."""
    accesses = [access for _, access in nest_accesses(nest)]
    return [
        (number, later) for number, access in enumerate(accesses) for later in range(number, len(accesses))
        if are_bound(access, accesses[later])
    ]


def due_rows(program, nest):
    """A rising list of all (I, J, SIGN) of which a FREE PAPER has a RING."""
    return [(number, later, sign) for number, later in bound_pairs(program[2][nest]) for sign in UNLIKE_SIGNS]


def row_binds(program, nest, loop, row):
    """BINDS of an (I, J, SIGN) at a loop."""
    number, later, sign = row
    pattern = tuple([sign if place == loop else "*" for place in range(len(program[2][nest][0]))])
    return all_binds(program, (nest, number), (nest, later), pattern)


def is_free(program, nest, loop):
    """Whether a loop is FREE."""
    return held_back(program, nest, loop) is None


def free_loops(program, nest):
    """A rising list of the numbers of a nest's FREE loops."""
    need_program(program)
    need_nest(program, nest)
    return [loop for loop in range(len(program[2][nest][0])) if is_free(program, nest, loop)]


def held_back(program, nest, loop):
    """(I, J, SIGN, MEETING) of the first two that keep a loop from being FREE; None of a FREE one."""
    need_loop(program, nest, loop)
    for row in due_rows(program, nest):
        met = least_meeting(program, (nest, row[0]), (nest, row[1]), row_binds(program, nest, loop, row))
        if met is not None:
            return (*row, met)
    return None


def free_paper(program, nest, loop):
    """A FREE PAPER; None of a loop that isn't FREE."""
    need_loop(program, nest, loop)
    found = []
    for row in due_rows(program, nest):
        shown = ring_of(row_binds(program, nest, loop, row))
        if shown is None:
            return None
        found.append((*row, shown))
    return tuple(found)


def check_free(program, nest, loop, paper):
    """None; refuses of anything what is no FREE PAPER."""
    need_loop(program, nest, loop)
    due = due_rows(program, nest)
    if not is_row(paper, len(due), len(due)):
        raise BadPaper(None)
    for number, row in enumerate(due):
        if not is_paper_row(row, row_binds(program, nest, loop, row), paper[number]):
            raise BadPaper(number)


def is_paper_row(due, rows, thing):
    """Whether anything is the row of a FREE PAPER that is due, with a RING of its BINDS."""
    return is_row(thing, 4, 4) and is_same(thing[:3], due) and is_ring(rows, thing[3])


def ties(program, nest):
    """TIES: a rising tuple of all (I, J, PATTERN) by which two ACCESSES MEET by some sizes."""
    need_program(program)
    need_nest(program, nest)
    many = len(program[2][nest][0])
    found = []
    for number, later in bound_pairs(program[2][nest]):
        for pattern in plain_patterns(many):
            # An ACCESS in one ROUND is one thing, and MEETS nothing there.
            if number == later and pattern == ("=",) * many:
                continue
            rows = all_binds(program, (nest, number), (nest, later), pattern)
            if least_meeting(program, (nest, number), (nest, later), rows) is not None:
                found.append((number, later, pattern))
    return tuple(found)
