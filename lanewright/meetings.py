"""Whether two ACCESSES MEET: shown by a MEETING, or, for all sizes, by a RING of what binds them."""

from lanewright.counts import count_at, greatest_of
from lanewright.errors import BadKind, BadNumber, BadPaper
from lanewright.parts import cell_by, is_one_of, is_row, nest_accesses, sizes_by_name, spots_below, spots_by_name
from lanewright.programs import need_access, need_nest, need_program, need_sizes
from lanewright.words import MOST_SIZE, is_number, is_whole

SIGNS = ("<", "=", ">", "*")


def need_pair(program, thing):
    """None; refuses of anything what is no pair of a nest's number and another thing."""
    if not is_row(thing, 2, 2):
        raise BadNumber(thing)
    need_nest(program, thing[0])


def need_sides(program, one, other, *, like):
    """None; refuses of anything what are no two ACCESSES, where like is True of nests with LIKE LOOPS."""
    need_program(program)
    need_pair(program, one)
    need_pair(program, other)
    if like and loops_by(program, one) != loops_by(program, other):
        raise BadKind("loops")
    need_access(program, one[0], one[1])
    need_access(program, other[0], other[1])


def need_pattern(loops, pattern):
    """None; refuses of anything what is no PATTERN for LOOPS."""
    if not is_row(pattern, len(loops), len(loops)) or not all([is_one_of(sign, SIGNS) for sign in pattern]):
        raise BadKind("pattern")


def plain_patterns(many):
    """A rising list of all PATTERNS without "*" for so many loops."""
    return [tuple([SIGNS[number] for number in row]) for row in spots_below((SIGNS.index("*"),) * many)]


def loops_by(program, side):
    """The LOOPS of the nest of an ACCESS, both by their numbers."""
    return program[2][side[0]][0]


def access_by(program, side):
    """An ACCESS by the numbers of its nest and of itself."""
    return nest_accesses(program[2][side[0]])[side[1]][1]


def are_of_one_array(program, one, other):
    """Whether two ACCESSES are of one array."""
    return access_by(program, one)[1] == access_by(program, other)[1]


def loop_binds(letter, loops, place):
    """The two that keep a ROUND's number within its loop, by the greatest sizes; none where no such loop is."""
    if place >= len(loops):
        return []
    name = (letter, place)
    return [(0, name, 0), (name, 0, greatest_of(loops[place][1]) - 1)]


def names_by_loop(letter, loops):
    """A dict from the NAMES of LOOPS to what they are called in BINDS, and from "" to 0."""
    names = {"": 0}
    for place, loop in enumerate(loops):
        names[loop[0]] = (letter, place)
    return names


def dim_binds(program, one, other):
    """The two for each dim that bring both ACCESSES to one cell."""
    lefts = names_by_loop("x", loops_by(program, one))
    rights = names_by_loop("y", loops_by(program, other))
    found = []
    for index, index_there in zip(access_by(program, one)[2], access_by(program, other)[2]):
        left = lefts[index[0]]
        right = rights[index_there[0]]
        apart = index_there[1] - index[1]
        found.append((left, right, apart))
        found.append((right, left, -apart))
    return found


def sign_binds(pattern):
    """What binds two ROUNDS to FIT a PATTERN."""
    found = []
    for place, sign in enumerate(pattern):
        left = ("x", place)
        right = ("y", place)
        if sign == "<":
            found.append((left, right, -1))
        elif sign == ">":
            found.append((right, left, -1))
        elif sign == "=":
            found.append((left, right, 0))
            found.append((right, left, 0))
    return found


def all_binds(program, one, other, pattern):
    """BINDS of two ACCESSES that are there, of nests with whatever LOOPS; the PATTERN () adds none."""
    if not are_of_one_array(program, one, other):
        return []
    loops = loops_by(program, one)
    loops_there = loops_by(program, other)
    found = []
    for place in range(max(len(loops), len(loops_there))):
        found.extend(loop_binds("x", loops, place))
        found.extend(loop_binds("y", loops_there, place))
    found.extend(dim_binds(program, one, other))
    found.extend(sign_binds(pattern))
    return found


def least_meeting(program, one, other, rows):
    """The MEETING of the greatest sizes with the least X, then Y, that BINDS allow; None without one."""
    if not are_of_one_array(program, one, other):
        return None
    names_x = [("x", place) for place in range(len(loops_by(program, one)))]
    names_y = [("y", place) for place in range(len(loops_by(program, other)))]
    found = least_numbers(rows, [0, *names_x, *names_y])
    if found is None:
        return None
    sizes = (MOST_SIZE,) * len(program[0])
    return sizes, tuple([found[name] for name in names_x]), tuple([found[name] for name in names_y])


def least_numbers(rows, names):
    """A dict from names to the least numbers, none below 0, that keep rows, 0 being 0; None without such.

    No number is raised further than rows ask for, so each one is the least that it can be. Rows keep all from
    falling below 0, so 0 itself is raised only where there are no such numbers.
    """
    found = {name: 0 for name in names}
    for _ in names:
        changed = False
        for left, right, most in rows:
            if found[left] - found[right] > most:
                found[right] = found[left] - most
                changed = True
        if not changed:
            return found
    return None


def binds(program, one, other, pattern):
    """BINDS of two ACCESSES and a PATTERN; [] of unlike arrays."""
    need_sides(program, one, other, like=True)
    need_pattern(loops_by(program, one), pattern)
    return all_binds(program, one, other, pattern)


def meeting(program, one, other, pattern):
    """The MEETING of the greatest sizes with the least X, then Y; None without one."""
    return least_meeting(program, one, other, binds(program, one, other, pattern))


def ring(program, one, other, pattern):
    """A RING of BINDS; None where the two MEET, () of unlike arrays."""
    return ring_of(binds(program, one, other, pattern))


def check_ring(program, one, other, pattern, paper):
    """None; refuses of anything what is no RING of BINDS."""
    need_ring(binds(program, one, other, pattern), paper)


def binds_apart(program, one, other):
    """BINDS of two ACCESSES of whatever nests, without SIGNS; [] of unlike arrays."""
    need_sides(program, one, other, like=False)
    return all_binds(program, one, other, ())


def meeting_apart(program, one, other):
    """The least MEETING of two ACCESSES of whatever nests; None without one."""
    return least_meeting(program, one, other, binds_apart(program, one, other))


def meets_at(program, one, other, sizes, x, y):
    """Whether x and y are ROUNDS by these sizes in which two ACCESSES MEET."""
    need_sides(program, one, other, like=True)
    need_sizes(program, sizes)
    loops = loops_by(program, one)
    need_round(loops, x)
    need_round(loops, y)
    named = sizes_by_name(program, sizes)
    if not is_round(loops, named, x) or not is_round(loops, named, y):
        return False
    return place_in(program, one, x) == place_in(program, other, y)


def need_round(loops, thing):
    """None; refuses of anything what is no tuple of as many whole numbers as LOOPS."""
    if not is_row(thing, len(loops), len(loops)) or not all([is_number(spot) for spot in thing]):
        raise BadKind("round")


def is_round(loops, named, spots):
    """Whether numbers, one for each of LOOPS, are a ROUND there."""
    return all([0 <= spot < count_at(loop[1], named) for loop, spot in zip(loops, spots)])


def place_in(program, side, spots):
    """The array and the CELL to which an ACCESS comes in a ROUND."""
    _, array, indexes = access_by(program, side)
    return array, cell_by(indexes, spots_by_name(loops_by(program, side), spots))


def numbered_rows(rows):
    """Triples with numbers for their names, by when these come first.

    Names are only compared: they may be anything, also what can be no key of a dict.
    """
    names = []
    found = []
    for left, right, most in rows:
        for name in (left, right):
            if name not in names:
                names.append(name)
        found.append((names.index(left), names.index(right), most))
    return found


def ring_of(rows):
    """A RING of triples; None where numbers for all names keep them, () of []."""
    if len(rows) == 0:
        return ()
    numbered = numbered_rows(rows)
    last, by = lowered(numbered)
    if last is None:
        return None
    # So many rows back there is a name on the RING itself, and no more one that only hangs on it.
    for _ in by:
        last = numbered[by[last]][1]
    found = []
    name = last
    while len(found) == 0 or name != last:
        found.append(by[name])
        name = numbered[by[name]][1]
    start = found.index(min(found))
    return tuple(found[start:] + found[:start])


def lowered(rows):
    """A name that can be lowered without end, and for each name the number of the row that lowered it last.

    The name is None where all rows can be kept.
    """
    many = 1 + max([max(left, right) for left, right, _ in rows])
    found = [0] * many
    by = [None] * many
    last = None
    for _ in range(many):
        last = None
        for number, (left, right, most) in enumerate(rows):
            if found[left] - found[right] > most:
                found[left] = found[right] + most
                by[left] = number
                last = left
        if last is None:
            break
    return last, by


def need_ring(rows, paper):
    """None; refuses of anything what is no RING of triples."""
    if not are_ring_numbers(rows, paper):
        raise BadPaper(None)
    many = len(paper)
    for place in range(many):
        if rows[paper[place]][1] != rows[paper[(place + 1) % many]][0]:
            raise BadPaper(place)
    if many > 0 and sum([rows[number][2] for number in paper]) >= 0:
        raise BadPaper("sum")


def are_ring_numbers(rows, thing):
    """Whether anything is a tuple of numbers of rows, each once, the least first; of [] only () is."""
    if not isinstance(thing, tuple) or not all([is_whole(number, most=len(rows) - 1) for number in thing]):
        return False
    if len(thing) == 0:
        return len(rows) == 0
    return thing[0] == min(thing) and len(set(thing)) == len(thing)


def is_ring(rows, thing):
    """Whether anything is a RING of triples."""
    try:
        need_ring(rows, thing)
    except BadPaper:
        return False
    return True
