"""What the tests share: programs, odd things, and another, slow way to reckon what the program reckons."""

import copy
import itertools
import random

from lanewright.programs import accesses_of

SIGNS = ("<", "=", ">", "*")
SIZES_OF_ONE = range(1, 13)


class Touchy:
    """A thing that can't even be compared, measured or shown."""

    __hash__ = None

    def __eq__(self, other):
        raise AssertionError("compared")

    def __len__(self):
        raise AssertionError("measured")

    def __iter__(self):
        raise AssertionError("gone over")

    def __bool__(self):
        raise AssertionError("asked for its truth")

    def __repr__(self):
        raise AssertionError("shown")


def fifty_deep():
    """A tuple of tuples, fifty deep."""
    thing = ()
    for _ in range(49):
        thing = (thing,)
    return thing


# Nothing of this is a NAME, a COUNT, a tuple of one to three NAMES, or a number from 1 to 12.
ODD_THINGS = [
    None, True, False, -1, -(10 ** 3999), 10 ** 3999, "", "A", "a1", "a b", "ninesigns", "a\n", b"", b"a", [], [0], ["a"], {},
    {"a": 1}, set(), {1}, frozenset(), (), (None,), (True,), ("A",), ([],), ((),), ((), ()), (0, [()]), ("a", "a"), range(3), object(),
    object, len, lambda: 0, Touchy(), (Touchy(),), (Touchy(), Touchy()), (Touchy(), Touchy(), Touchy()),
    (Touchy(), Touchy(), Touchy(), Touchy()), fifty_deep(),
]


ODD_NUMBERS = [None, True, False, -1, 99, "0", b"0", (0,), [0], {}, 10 ** 3999, object(), int, Touchy()]


def fixed(number):
    """A COUNT without TERMS."""
    return (number, ())


def by(name, times=1, more=0):
    """A COUNT with one of TERMS."""
    return (more, ((name, times),))


def at(array, *indexes):
    """An EXPR that loads."""
    return ("at", array, tuple(indexes))


def put(array, indexes, expr):
    return ("put", array, tuple(indexes), expr)


def add(array, indexes, expr):
    return ("add", array, tuple(indexes), expr)


def num(word):
    return ("num", word)


# c = a * b, as loops tell it.
PRODUCT = (
    ("m", "n", "k"),
    (
        ("a", "given", (by("m"), by("k"))),
        ("b", "given", (by("k"), by("n"))),
        ("c", "told", (by("m"), by("n"))),
    ),
    (
        (
            (("i", by("m")), ("j", by("n")), ("t", by("k"))),
            (add("c", (("i", 0), ("j", 0)), ("mul", at("a", ("i", 0), ("t", 0)), at("b", ("t", 0), ("j", 0)))),),
        ),
    ),
)

# Sums of neighbours, running sums behind these, and a nest that never goes.
LINE = (
    ("n",),
    (
        ("raw", "given", (by("n", 1, 2),)),
        ("near", "own", (by("n"),)),
        ("sums", "told", (by("n", 1, 1),)),
        ("flag", "told", (fixed(1), fixed(3))),
    ),
    (
        (
            (("i", by("n")),),
            (
                put("near", (("i", 0),), ("add", at("raw", ("i", 0)), ("add", at("raw", ("i", 1)), at("raw", ("i", 2))))),
                add("flag", (("", 0), ("", 2)), ("loop", "i")),
            ),
        ),
        (
            (("i", by("n")),),
            (
                put("sums", (("i", 1),), ("sub", at("sums", ("i", 0)), at("near", ("i", 0)))),
                add("sums", (("", 0),), ("max", at("near", ("i", 0)), ("min", ("loop", "i"), num(65535)))),
            ),
        ),
        (
            (("i", by("n", 1, -1)), ("j", fixed(0))),
            (put("flag", (("", 0), ("", 1)), num(9)),),
        ),
    ),
)

# Accesses whose INDEXES are by unlike loops, with gaps and numbers alone.
CROSS = (
    ("m", "n"),
    (
        ("g", "told", (by("m", 2, 9), (9, (("m", 1), ("n", 1))))),
        ("h", "own", (by("n", 1, 9),)),
        ("w", "given", (fixed(2),)),
    ),
    (
        (
            (("p", by("m")), ("q", by("n"))),
            (
                put("g", (("p", 3), ("q", 0)), at("g", ("p", 1), ("q", 2))),
                put("g", (("p", 0), ("p", 1)), ("add", at("h", ("q", 4)), at("g", ("", 4), ("q", 1)))),
                add("h", (("q", 1),), ("mul", at("w", ("", 1)), at("h", ("", 5)))),
            ),
        ),
        (
            (("p", by("m")), ("q", by("n"))),
            (put("h", (("q", 9),), at("g", ("p", 2), ("", 8))),),
        ),
        (
            (("q", by("n")), ("p", by("m"))),
            (put("h", (("q", 0),), at("g", ("p", 0), ("q", 0))),),
        ),
        (
            (("s", by("m")),),
            (put("g", (("s", 2), ("", 7)), at("h", ("", 3))),),
        ),
    ),
)

PROGRAMS = [PRODUCT, LINE, CROSS]


def deep_list(thing):
    """The same thing with a list in the place of each tuple: unlike what it was made of, it can be changed."""
    return [deep_list(part) for part in thing] if isinstance(thing, tuple) else thing


def with_part(thing, path, part):
    """A copy of nested tuples with another part at a path."""
    if not path:
        return part
    rows = list(thing)
    rows[path[0]] = with_part(rows[path[0]], path[1:], part)
    return tuple(rows)


def count_of(count, sizes):
    return count[0] + sum(times * sizes[name] for name, times in count[1])


def all_sizes(program):
    return itertools.product(SIZES_OF_ONE, repeat=len(program[0]))


def given_for(program, sizes, seed=0):
    """WORDS for all "given" arrays, the edges of WORDS among them."""
    chance = random.Random(seed)
    named = dict(zip(program[0], sizes))
    rows = []
    for _, kind, dims in program[1]:
        if kind == "given":
            many = 1
            for dim in dims:
                many *= count_of(dim, named)
            rows.append(tuple(chance.choice([0, 1, 65535, 65534, 32768, chance.randrange(65536)]) for _ in range(many)))
    return tuple(rows)


def slow_walk(program, sizes, given):
    """Another plain walk: the program is written out as Python's own loops, and these are run."""
    named = dict(zip(program[0], sizes))
    cells, stores, loads, stands = {}, [], [], []
    words = iter(given)
    for name, kind, dims in program[1]:
        spots = list(itertools.product(*[range(count_of(dim, named)) for dim in dims]))
        cells[name] = dict(zip(spots, next(words) if kind == "given" else [0] * len(spots)))
    stands.append(stand_shown(program, cells))
    for nest, (loops, steps) in enumerate(program[2]):
        text = written_out(nest, loops, steps, named)

        def load(step, spots, array, cell, nest=nest):
            loads.append((nest, step, spots, array, cell, cells[array][cell]))
            return cells[array][cell]

        def store(step, spots, array, cell, word, nest=nest):
            cells[array][cell] = word % 65536
            stores.append((nest, step, spots, array, cell, word % 65536))

        exec(text, {"load": load, "store": store, "min": min, "max": max})
        stands.append(stand_shown(program, cells))
    return tuple(stores), tuple(loads), stands


def stand_shown(program, cells):
    return tuple((name, tuple(cells[name][cell] for cell in sorted(cells[name]))) for name, _, _ in program[1])


def written_out(nest, loops, steps, named):
    rows = []
    for deep, (name, count) in enumerate(loops):
        rows.append("    " * deep + f"for {name}_ in range({count_of(count, named)}):")
    spots = "(" + "".join(name + "_, " for name, _ in loops) + ")"
    for number, (word, array, indexes, expr) in enumerate(steps):
        worth = expr_text(expr, number, spots)
        if word == "add":
            worth = f"{worth} + load({number}, {spots}, {array!r}, {cell_text(indexes)})"
        rows.append("    " * len(loops) + f"store({number}, {spots}, {array!r}, {cell_text(indexes)}, {worth})")
    return "\n".join(rows)


def cell_text(indexes):
    return "(" + "".join(f"{loop + '_' if loop else 0} + {more}, " for loop, more in indexes) + ")"


def expr_text(expr, number, spots):
    if expr[0] == "num":
        return str(expr[1])
    if expr[0] == "loop":
        return expr[1] + "_"
    if expr[0] == "at":
        return f"load({number}, {spots}, {expr[1]!r}, {cell_text(expr[2])})"
    one, other = expr_text(expr[1], number, spots), expr_text(expr[2], number, spots)
    if expr[0] in ("min", "max"):
        return f"{expr[0]}({one}, {other})"
    return f"(({one} {dict(add='+', sub='-', mul='*')[expr[0]]} {other}) % 65536)"


def chance_program(seed):
    """A small PROGRAM by chance, with whatever INDEXES its arrays allow."""
    chance = random.Random(seed)
    names = ("aa", "ab", "ac")[:chance.randint(1, 3)]
    sizes = names[:chance.randint(1, 2)]
    arrays = []
    for name in ("u", "v", "w", "z")[:chance.randint(2, 4)]:
        dims = tuple(by(chance.choice(sizes), 1, chance.randint(0, 3)) for _ in range(chance.randint(1, 2)))
        arrays.append((name, chance.choice(["given", "told", "own"]) if arrays else "told", dims))
    nests = []
    for _ in range(chance.randint(1, 3)):
        loops = tuple((name, by(chance.choice(sizes), 1, chance.randint(-1, 0)))
                      for name in ("i", "j", "k")[:chance.randint(1, 2)])
        steps = tuple(chance_step(chance, arrays, loops) for _ in range(chance.randint(1, 3)))
        nests.append((loops, steps))
    return (sizes, tuple(arrays), tuple(nests))


def chance_place(chance, array, loops):
    indexes = []
    for dim in array[2]:
        fit = [("", more) for more in range(dim[0] + 1) if more < 10]
        for name, count in loops:
            if count[1] == dim[1]:
                fit.extend([(name, more) for more in range(dim[0] - count[0] + 1)] * 3)
        indexes.append(chance.choice(fit))
    return tuple(indexes)


def chance_expr(chance, arrays, loops, deep):
    kind = chance.choice(["num", "loop", "at", "at", "op", "op"])
    if kind == "num":
        return num(chance.choice([0, 1, 65535, chance.randrange(65536)]))
    if kind == "loop":
        return ("loop", chance.choice(loops)[0])
    if kind == "at" or deep == 1:
        array = chance.choice(arrays)
        return ("at", array[0], chance_place(chance, array, loops))
    op = chance.choice(["add", "sub", "mul", "min", "max"])
    return (op, chance_expr(chance, arrays, loops, deep - 1), chance_expr(chance, arrays, loops, deep - 1))


def chance_step(chance, arrays, loops):
    array = chance.choice([array for array in arrays if array[1] != "given"])
    expr = chance_expr(chance, arrays, loops, 3)
    return (chance.choice(["put", "add"]), array[0], chance_place(chance, array, loops), expr)


def sides_of(program, nests=None):
    return [(nest, number) for nest in (range(len(program[2])) if nests is None else nests)
            for number in range(len(accesses_of(program, nest)))]


def access_at(program, side):
    return accesses_of(program, side[0])[side[1]][1]


def loops_at(program, side):
    return program[2][side[0]][0]


def rounds_by_cell(program, side, sizes):
    """All ROUNDS, rising, of each CELL to which an ACCESS comes."""
    named = dict(zip(program[0], sizes))
    loops = loops_at(program, side)
    indexes = access_at(program, side)[2]
    found = {}
    for spots in itertools.product(*[range(count_of(count, named)) for _, count in loops]):
        where = dict(zip([name for name, _ in loops], spots))
        cell = tuple(where.get(loop, 0) + more for loop, more in indexes)
        found.setdefault(cell, []).append(spots)
    return found


def fits(pattern, x, y):
    looks = {"<": lambda a, b: a < b, "=": lambda a, b: a == b, ">": lambda a, b: a > b, "*": lambda a, b: True}
    return all(looks[sign](a, b) for sign, a, b in zip(pattern, x, y))


def slow_meeting(program, one, other, pattern):
    """The MEETING with the least X, then Y, found by looking at all ROUNDS of the greatest sizes."""
    if access_at(program, one)[1] != access_at(program, other)[1]:
        return None
    sizes = (12,) * len(program[0])
    there = rounds_by_cell(program, other, sizes)
    pairs = ((x, y) for cell, xs in rounds_by_cell(program, one, sizes).items() for x in xs for y in there.get(cell, ()))
    best = min((pair for pair in pairs if fits(pattern, *pair)), default=None)
    return None if best is None else (sizes, *best)


def slow_binds(program, one, other, pattern):
    """BINDS as the document tells them, in three parts."""
    loops, there = loops_at(program, one), loops_at(program, other)
    rows = []
    for k in range(max(len(loops), len(there))):
        for letter, some in (("x", loops), ("y", there)):
            if k < len(some):
                most = some[k][1][0] + 12 * sum(times for _, times in some[k][1][1])
                rows += [(0, (letter, k), 0), ((letter, k), 0, most - 1)]
    named = [name for name, _ in loops], [name for name, _ in there]
    for (loop, more), (loop_there, more_there) in zip(access_at(program, one)[2], access_at(program, other)[2]):
        u = ("x", named[0].index(loop)) if loop else 0
        v = ("y", named[1].index(loop_there)) if loop_there else 0
        rows += [(u, v, more_there - more), (v, u, more - more_there)]
    for k, sign in enumerate(pattern):
        rows += {"<": [(("x", k), ("y", k), -1)], ">": [(("y", k), ("x", k), -1)], "*": [],
                 "=": [(("x", k), ("y", k), 0), (("y", k), ("x", k), 0)]}[sign]
    return rows


def is_ring(rows, paper):
    """None, or what BadPaper tells, by the words of the document."""
    if not isinstance(paper, tuple) or any(type(number) is not int for number in paper):
        return (None,)
    if rows and (not paper or min(paper) != paper[0] or len(set(paper)) < len(paper) or paper[0] < 0 or max(paper) >= len(rows)):
        return (None,)
    if not rows:
        return None if paper == () else (None,)
    for k, number in enumerate(paper):
        if rows[number][1] != rows[(paper[1:] + paper[:1])[k]][0]:
            return (k,)
    return None if sum(rows[number][2] for number in paper) < 0 else ("sum",)


class Kept:
    """Sees to it that what is handed in stays as it was."""

    def __init__(self, case, *things):
        self.case = case
        self.things = things
        self.copies = copy.deepcopy(things)

    def __enter__(self):
        return self

    def __exit__(self, kind, value, trace):
        if kind is None:
            self.case.assertEqual(self.things, self.copies)


def refused(case, error, field, about, call, *things, **named):
    """Sees to it that a call is refused by just this class, with just this field."""
    with case.assertRaises(error) as seen:
        call(*things, **named)
    case.assertIs(type(seen.exception), error)
    told = getattr(seen.exception, field)
    if told is not about:
        case.assertEqual(told, about)
        case.assertIs(type(told), type(about))


def is_bound(program, one, other):
    """Whether two ACCESSES are of one array, one of both a "store"."""
    (kind, array, _), (kind_there, array_there, _) = access_at(program, one), access_at(program, other)
    return array == array_there and "store" in (kind, kind_there)


def cube(*steps):
    """A PROGRAM of one nest of three loops, whose STEPS come to one array."""
    loops = (("i", by("m")), ("j", by("n")), ("k", fixed(3)))
    return (("m", "n"), (("a", "told", (by("m", 1, 9), by("n", 1, 9))),), ((loops, steps),))


# The first loop is FREE alone, though the others meet in many ways; then none is; then all but the last one are.
DEEP = cube(put("a", (("i", 0), ("j", 1)), at("a", ("i", 0), ("k", 2))), add("a", (("i", 0), ("k", 0)), at("a", ("i", 0), ("", 8))))
DENSE = cube(put("a", (("i", 1), ("j", 0)), at("a", ("i", 1), ("j", 1))), add("a", (("", 0), ("j", 2)), at("a", ("k", 0), ("j", 1))))
TWICE = (("m",), (("a", "own", (by("m"), by("m", 1, 1))),), ((
    (("i", by("m")), ("j", fixed(2))), (add("a", (("i", 0), ("i", 1)), ("loop", "j")),),),))
# Lanes may have the first loop, though it is by this nest that "own" cells are shared by all of the second one.
ROWS = (
    ("m", "n"),
    (
        ("raw", "given", (by("m", 1, 2), by("n"))),
        ("row", "own", (by("m"),)),
        ("spot", "own", (by("m"), by("n", 1, 1))),
        ("out", "told", (by("m"),)),
    ),
    (
        (
            (("i", by("m")), ("j", by("n"))),
            (
                put("spot", (("i", 0), ("j", 1)), ("add", at("raw", ("i", 0), ("j", 0)), at("raw", ("i", 2), ("j", 0)))),
                add("row", (("i", 0),), ("mul", at("spot", ("i", 0), ("j", 1)), at("spot", ("i", 0), ("j", 1)))),
            ),
        ),
        (
            (("i", by("m")),),
            (put("out", (("i", 0),), ("sub", at("row", ("i", 0)), at("out", ("i", 0)))),),
        ),
        (
            (("i", by("m")), ("j", by("n"))),
            (add("out", (("i", 0),), ("min", at("raw", ("i", 1), ("j", 0)), at("row", ("i", 0)))),),
        ),
    ),
)
MORE_PROGRAMS = PROGRAMS + [DEEP, DENSE, TWICE, ROWS]


# SIZES and ARRAYS for KERNELS.
HEAD = (
    ("m", "n"),
    (
        ("gift", "given", (by("m", 1, 2),)),
        ("told", "told", (by("m"), by("n", 1, 1))),
        ("mine", "own", (fixed(4),)),
    ),
)
NEARS = (("desk", (fixed(3),)), ("gifts", (by("n"), fixed(2))))


def stand_for(at, seed=0):
    """A STAND of the ARRAYS of HEAD."""
    chance = random.Random(seed)
    named = dict(zip(HEAD[0], at))
    rows = []
    for name, _, dims in HEAD[1]:
        many = 1
        for dim in dims:
            many *= count_of(dim, named)
        rows.append((name, tuple(chance.choice([0, 1, 2, 65535, chance.randrange(65536)]) for _ in range(many))))
    return tuple(rows)


def kernel(*rows, lanes=2, count=fixed(3), nears=NEARS):
    return (lanes, count, nears, rows)


def chance_kernel(seed):
    """A KERNEL by chance for HEAD, whose loops are short."""
    chance = random.Random(seed)
    count = chance.choice([fixed(0), fixed(1), by("m"), by("n", 2, -1), fixed(5)])
    rows = chance_rows(chance, chance.randint(1, 5), 0)
    if seed % 5 == 0:
        # The first lane of a group waits elsewhere than the others.
        rows += (("if", ("lane",), (("fence",),)), ("fence",))
    return (chance.randint(1, 4), count, NEARS, rows)


def chance_rows(chance, many, deep):
    return tuple(chance_row(chance, deep) for _ in range(many))


def chance_row(chance, deep):
    word = chance.choice(["set", "set", "do", "do", "load", "load", "store", "store", "loop", "if", "fence"])
    reg = chance.randrange(4)
    if word in ("loop", "if") and deep == 3:
        word = "set"
    if word == "set":
        return ("set", reg, chance_operand(chance))
    if word == "do":
        return ("do", chance.choice("add sub mul min max less div rest".split()), reg, chance_operand(chance), chance_operand(chance))
    if word in ("load", "store"):
        return chance_move(chance, word, reg)
    if word == "loop":
        first, last = ("num", chance.randrange(3)), chance.choice([("num", chance.randrange(4)), ("size", "m"), ("lane",)])
        return ("loop", reg, first, last, chance_rows(chance, chance.randint(0, 3), deep + 1))
    if word == "if" and chance.randrange(3) == 0:
        return ("if", ("lane",), (*chance_rows(chance, chance.randint(0, 2), deep + 1), ("fence",)))
    if word == "if":
        return ("if", chance_operand(chance), chance_rows(chance, chance.randint(0, 3), deep + 1))
    return ("fence",)


def chance_move(chance, word, reg):
    name, sides = chance.choice([("gift", 1), ("told", 2), ("mine", 1), ("desk", 1), ("gifts", 2)])
    cells = tuple(chance.choice([("num", chance.randrange(2)), ("num", 0), ("lane",), ("group",), ("reg", chance.randrange(4))])
                  for _ in range(sides))
    row = ("load", reg, name, cells) if word == "load" else ("store", name, cells, chance_operand(chance))
    return row + chance.choice([(), (), ((chance.randrange(5), chance.choice([None, 0, 3])),)])


def chance_operand(chance):
    return chance.choice([
        ("num", chance.choice([0, 1, 2, 65535, chance.randrange(65536)])), ("reg", chance.randrange(4)), ("reg", chance.randrange(4)),
        ("lane",), ("group",), ("size", chance.choice("mn"))])
