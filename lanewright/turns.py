"""TURNS of a PROGRAM into another one, and the papers that show that they are SAFE."""

from lanewright.errors import BadNumber, BadPaper, BadTurn, Unsafe
from lanewright.meetings import all_binds, is_ring, least_meeting, plain_patterns, ring_of
from lanewright.parts import are_bound, is_one_of, is_row, nest_accesses
from lanewright.programs import MOST_ACCESSES, MOST_NESTS, MOST_STEPS, need_program
from lanewright.words import is_whole

WORDS_OF_TWO_NESTS = ("fuse", "part")
WORDS_OF_ONE_NEST = ("split", "swap")


def need_turn(program, turn):
    """None; refuses of anything what is no TURN of a PROGRAM."""
    need_program(program)
    if not is_turn_form(turn):
        raise BadTurn(None)
    nests = program[2]
    beyond = 2 if turn[0] in WORDS_OF_TWO_NESTS else 1
    if not is_whole(turn[1], most=len(nests) - beyond):
        raise BadTurn(1)
    loops, steps = nests[turn[1]]
    if turn[0] == "split" and not is_whole(turn[2], least=1, most=len(steps) - 1):
        raise BadTurn(2)
    if turn[0] == "swap" and not is_order(turn[2], len(loops)):
        raise BadTurn(2)
    if turn[0] == "fuse" and not can_fuse(nests[turn[1]], nests[turn[1] + 1]):
        raise BadTurn(3)
    if turn[0] == "split" and len(nests) == MOST_NESTS:
        raise BadTurn(3)


def is_turn_form(thing):
    """Whether anything is a tuple of as many things as a TURN by its first word."""
    if not is_row(thing, 2, 3):
        return False
    return is_one_of(thing[0], WORDS_OF_TWO_NESTS if len(thing) == 2 else WORDS_OF_ONE_NEST)


def is_order(thing, many):
    """Whether anything is a tuple of the numbers of so many loops, each once."""
    if not is_row(thing, many, many) or not all([is_whole(number, most=many - 1) for number in thing]):
        return False
    return len(set(thing)) == many


def can_fuse(nest, other):
    """Whether two nests can become one."""
    if nest[0] != other[0] or len(nest[1]) + len(other[1]) > MOST_STEPS:
        return False
    return len(nest_accesses(nest)) + len(nest_accesses(other)) <= MOST_ACCESSES


def turned(program, turn):
    """The PROGRAM that comes of a TURN, SAFE or not."""
    need_turn(program, turn)
    sizes, arrays, nests = program
    return sizes, arrays, nests_behind(nests, turn)


def nests_behind(nests, turn):
    """NESTS as a TURN leaves them."""
    word, at = turn[0], turn[1]
    loops, steps = nests[at]
    if word == "fuse":
        return (*nests[:at], (loops, steps + nests[at + 1][1]), *nests[at + 2:])
    if word == "part":
        return (*nests[:at], nests[at + 1], nests[at], *nests[at + 2:])
    if word == "split":
        return (*nests[:at], (loops, steps[:turn[2]]), (loops, steps[turn[2]:]), *nests[at + 1:])
    return (*nests[:at], (reordered(loops, turn[2]), steps), *nests[at + 1:])


def reordered(row, order):
    """A tuple of the things of a row in another order."""
    return tuple([row[number] for number in order])


def sides_of(program, nest, first, last):
    """A rising list of pairs (NEST, number) of the ACCESSES of a nest's STEPS from first to below last."""
    return [(nest, number) for number, (step, _) in enumerate(nest_accesses(program[2][nest])) if first <= step < last]


def access_pairs(program, turn):
    """A rising list of pairs of two ACCESSES that a TURN may REVERSE."""
    word, nest = turn[0], turn[1]
    ones = sides_of(program, nest, 0, MOST_STEPS)
    others = ones
    if word in WORDS_OF_TWO_NESTS:
        others = sides_of(program, nest + 1, 0, MOST_STEPS)
    elif word == "split":
        ones = sides_of(program, nest, 0, turn[2])
        others = sides_of(program, nest, turn[2], MOST_STEPS)
    accesses = {(at, number): access for at in range(len(program[2]))
                for number, (_, access) in enumerate(nest_accesses(program[2][at]))}
    return [(one, other) for one in ones for other in others if are_bound(accesses[one], accesses[other])]


def case_patterns(program, turn):
    """A rising list of the PATTERNS by which a TURN would REVERSE two ACCESSES that MEET."""
    if turn[0] == "part":
        return [()]
    many = len(program[2][turn[1]][0])
    if turn[0] == "swap":
        return [pattern for pattern in plain_patterns(many)
                if first_unlike(pattern) == "<" and first_unlike(reordered(pattern, turn[2])) == ">"]
    return [("=",) * place + (">",) + ("*",) * (many - place - 1) for place in reversed(range(many))]


def first_unlike(pattern):
    """The first SIGN that isn't "="; that itself where all are."""
    for sign in pattern:
        if sign != "=":
            return sign
    return "="


def all_cases(program, turn):
    """CASES of what is known to be a TURN."""
    patterns = case_patterns(program, turn)
    return [(one, other, pattern) for one, other in access_pairs(program, turn) for pattern in patterns]


def cases(program, turn):
    """CASES: a rising list of all (ONE, OTHER, PATTERN) that a SAFE TURN must not REVERSE."""
    need_turn(program, turn)
    return all_cases(program, turn)


def case_binds(program, turn, number):
    """BINDS of one of CASES."""
    need_turn(program, turn)
    due = all_cases(program, turn)
    if not is_whole(number, most=len(due) - 1):
        raise BadNumber(number)
    one, other, pattern = due[number]
    return all_binds(program, one, other, pattern)


def reversed_by(program, turn):
    """(ONE, OTHER, MEETING) of the first of CASES that has one; None of a SAFE TURN."""
    need_turn(program, turn)
    for one, other, pattern in all_cases(program, turn):
        met = least_meeting(program, one, other, all_binds(program, one, other, pattern))
        if met is not None:
            return one, other, met
    return None


def is_safe(program, turn):
    """Whether a TURN is SAFE."""
    return reversed_by(program, turn) is None


def safely(program, turn):
    """The PROGRAM that comes of a SAFE TURN; any other one is refused."""
    against = reversed_by(program, turn)
    if against is not None:
        raise Unsafe(against)
    return turned(program, turn)


def turn_paper(program, turn):
    """A PAPER of a SAFE TURN; None of one that isn't."""
    need_turn(program, turn)
    found = []
    for one, other, pattern in all_cases(program, turn):
        shown = ring_of(all_binds(program, one, other, pattern))
        if shown is None:
            return None
        found.append(shown)
    return tuple(found)


def check_turn(program, turn, paper):
    """The PROGRAM that comes of a TURN; refuses of anything what is no PAPER of it."""
    need_turn(program, turn)
    due = all_cases(program, turn)
    if not is_row(paper, len(due), len(due)):
        raise BadPaper(None)
    for number, (one, other, pattern) in enumerate(due):
        if not is_ring(all_binds(program, one, other, pattern), paper[number]):
            raise BadPaper(number)
    return turned(program, turn)
