"""KERNELS of nests by PLANS."""

from lanewright.errors import BadKind
from lanewright.parts import arrays_by_name
from lanewright.plans import accesses_by_array, need_plan, uses_by_plan
from lanewright.programs import need_program
from lanewright.words import WORDS

# Near cells stand in rows of so many, since no COUNT without TERMS tells NEAR_MOST: that many fill as many rows.
NEAR_ROW = 8
NEAR_DIMS = ((8, ()), (8, ()))
LETTERS = "abcdefghijklmnopqrstuvwxyz"
# Registers for the numbers of a CELL, for EXPRS five deep, and, while WINDOWS are brought near, for what that needs.
SPOT = 0
SPOT_BEYOND = 1
WORTH = 2
WORTH_BEYOND = 3
LIMIT = 2
MORE = 3
BROUGHT = 4
NUMBER = 5
LESS = 6
# Those from here on keep what they have.
FIRST_KEPT = 7


class Draft:
    """What the rows of a KERNEL are made of, and which registers have what."""

    def __init__(self, program, nest, plan):
        self.loops, self.steps = program[2][nest]
        self.nest = nest
        self.plan = plan
        self.dealt = self.loops[plan[0]][0]
        self.others = [loop[0] for loop in self.loops if loop[0] != self.dealt]
        self.accesses = accesses_by_array(program[2][nest])
        self.nearby = dict(zip(plan[2], names_beside(program)))
        self.kept_next = FIRST_KEPT
        # By the NAMES of LOOPS: operands that tell how far each goes, where it is, and where within a WINDOW.
        self.counts = {}
        self.where = {"": ("num", 0)}
        self.within = {"": ("num", 0)}
        # The operand that tells the least number of a group.
        self.base = num(0)
        # By the NAMES of arrays: operands that tell how long the rows of a WINDOW are; registers of held, local cells.
        self.lengths = {}
        self.cells = {}

    def fresh(self):
        """A register that nothing else is kept in."""
        self.kept_next += 1
        return self.kept_next - 1

    def source(self, step):
        """The SOURCE of a STEP, or, of None, of none."""
        return self.nest, step


def names_beside(program):
    """NAMES that no array has, more than enough for NEARS."""
    there = arrays_by_name(program[1])
    return [name for name in ["near" + letter for letter in LETTERS] if name not in there]


def kernel_of(program, nest, plan):
    """A KERNEL of a nest by a PLAN."""
    need_plan(program, nest, plan)
    draft = Draft(program, nest, plan)
    rows = count_rows(draft) + number_rows(draft)
    if len(plan[2]) > 0:
        rows.extend(near_rows(draft))
        rows.append(("fence",))
    rows.extend(lane_rows(draft))
    nears = [(draft.nearby[name], NEAR_DIMS) for name in plan[2]]
    return plan[1], draft.loops[plan[0]][1], tuple(nears), tuple(rows)


def need_plans(program, plans):
    """None; refuses of anything what are no PLANS, one for each nest of a PROGRAM."""
    need_program(program)
    many = len(program[2])
    if not isinstance(plans, (list, tuple)) or len(plans) != many:
        raise BadKind("plans")
    for nest, plan in enumerate(plans):
        need_plan(program, nest, plan)


def kernels_of(program, plans):
    """A list of KERNELS of all nests by PLANS, a list or tuple of one for each."""
    need_plans(program, plans)
    return [kernel_of(program, nest, plan) for nest, plan in enumerate(plans)]


def reg(number):
    """The operand of a register."""
    return "reg", number


def num(word):
    """The operand of a WORD."""
    return "num", word


def do(op, into, one, other):
    """The row that makes one of two operands."""
    return "do", op, into, one, other


def more_rows(into, one, number):
    """A pair of rows, and the operand that tells an operand and a number together behind them."""
    if number == 0:
        return [], one
    if one == num(0):
        return [], num(number)
    return [do("add", into, one, num(number))], reg(into)


def count_rows(draft):
    """Rows that reckon the COUNTS of all LOOPS."""
    rows = []
    for name, (fixed, terms) in draft.loops:
        if len(terms) == 0:
            draft.counts[name] = num(fixed)
        elif fixed == 0 and len(terms) == 1 and terms[0][1] == 1:
            draft.counts[name] = ("size", terms[0][0])
        else:
            into = draft.fresh()
            draft.counts[name] = reg(into)
            rows.append(("set", into, num(fixed % WORDS)))
            for size, times in terms:
                # Added as often as it counts: that is at most three times.
                rows.extend([do("add", into, reg(into), ("size", size))] * times)
    return rows


def number_rows(draft):
    """Rows that reckon the number that a lane has, and the least one of its group."""
    base, number = draft.fresh(), draft.fresh()
    draft.base = reg(base)
    draft.where[draft.dealt] = reg(number)
    draft.within[draft.dealt] = ("lane",)
    return [do("mul", base, ("group",), num(draft.plan[1])), do("add", number, reg(base), ("lane",))]


def near_rows(draft):
    """Rows that bring all WINDOWS of a group near."""
    span = draft.fresh()
    rows = [do("sub", span, draft.counts[draft.dealt], draft.base), do("min", span, reg(span), num(draft.plan[1]))]
    spans = {"": num(1), draft.dealt: reg(span)}
    for name in draft.others:
        spans[name] = draft.counts[name]
    inner = []
    for array in draft.plan[2]:
        inner.extend(window_rows(draft, array, spans))
    # Without ROUNDS a WINDOW is empty.
    for name in draft.others:
        inner = [("if", draft.counts[name], tuple(inner))]
    return rows + inner


def sides_of(draft, array):
    """A list of (LOOP, C, MORE) for each dim of a NEAR array: by what it goes, the least C, and the most beyond it."""
    indexes = [access[2] for access in draft.accesses[array]]
    found = []
    for dim, (loop, _) in enumerate(indexes[0]):
        numbers = [index[dim][1] for index in indexes]
        found.append((loop, min(numbers), max(numbers) - min(numbers)))
    return found


def window_rows(draft, array, spans):
    """Rows by which the lanes of a group bring one WINDOW near; of LANES CELLS one behind the other each has one."""
    sides = sides_of(draft, array)
    rows, words = more_rows(LIMIT, spans[sides[0][0]], sides[0][2])
    if len(sides) == 2:
        more, draft.lengths[array] = more_rows(draft.fresh(), spans[sides[1][0]], sides[1][2])
        rows = rows + more + [do("mul", LIMIT, words, draft.lengths[array])]
        words = reg(LIMIT)
    lanes = draft.plan[1]
    bring = [
        do("mul", NUMBER, reg(BROUGHT), num(lanes)),
        do("add", NUMBER, reg(NUMBER), ("lane",)),
        do("less", LESS, reg(NUMBER), words),
        ("if", reg(LESS), tuple(bring_rows(draft, array, sides))),
    ]
    return rows + [
        do("add", MORE, words, num(lanes - 1)),
        do("div", MORE, reg(MORE), num(lanes)),
        ("loop", BROUGHT, num(0), reg(MORE), tuple(bring)),
    ]


def bring_rows(draft, array, sides):
    """Rows by which a lane brings the CELL near that has a NUMBER in its WINDOW."""
    rows = [("set", SPOT, reg(NUMBER))]
    if len(sides) == 2:
        length = draft.lengths[array]
        rows = [do("div", SPOT, reg(NUMBER), length), do("rest", SPOT_BEYOND, reg(NUMBER), length)]
    for spot, (loop, low, _) in enumerate(sides):
        if loop == draft.dealt:
            rows.append(do("add", spot, reg(spot), draft.base))
        rows.extend(more_rows(spot, reg(spot), low)[0])
    spots = tuple([reg(place) for place in range(len(sides))])
    source = draft.source(None)
    return rows + [("load", LESS, array, spots, source)] + place_rows(reg(NUMBER)) + [
        ("store", draft.nearby[array], (reg(SPOT), reg(SPOT_BEYOND)), reg(LESS), source),
    ]


def place_rows(number):
    """Rows that reckon in which near CELL that of a WINDOW with a number stands."""
    return [do("rest", SPOT_BEYOND, number, num(NEAR_ROW)), do("div", SPOT, number, num(NEAR_ROW))]


def lane_rows(draft):
    """Rows of a lane whose number is below the COUNT: held cells loaded, all its ROUNDS, held cells stored."""
    uses = uses_by_plan(draft.plan)
    for array in uses:
        if uses[array] != "near":
            draft.cells[array] = draft.fresh()
    registers = {}
    for name in draft.others:
        registers[name] = draft.fresh()
        draft.where[name] = reg(registers[name])
        draft.within[name] = reg(registers[name])
    rows = [row for place, step in enumerate(draft.steps) for row in step_rows(draft, place, step)]
    for name in reversed(draft.others):
        rows = [("loop", registers[name], num(0), draft.counts[name], tuple(rows))]
    for array in draft.plan[3]:
        cell_rows, spots = far_spots(draft, draft.accesses[array][0][2])
        place, source = draft.cells[array], draft.source(None)
        load, store = ("load", place, array, spots, source), ("store", array, spots, reg(place), source)
        rows = cell_rows + [load] + rows + cell_rows + [store]
    count, number = draft.counts[draft.dealt], draft.where[draft.dealt]
    return [do("less", WORTH, number, count), ("if", reg(WORTH), tuple(rows))]


def far_spots(draft, indexes):
    """A pair of rows, and the operands that tell the CELL of INDEXES behind them."""
    rows, spots = [], []
    for spot, (loop, more) in enumerate(indexes):
        some, operand = more_rows(spot, draft.where[loop], more)
        rows.extend(some)
        spots.append(operand)
    return rows, tuple(spots)


def near_spots(draft, array, indexes):
    """A pair of rows, and the operands that tell where a CELL of a NEAR array stands behind them."""
    rows, operands = [], []
    for spot, (loop, low, _) in enumerate(sides_of(draft, array)):
        some, operand = more_rows(spot, draft.within[loop], indexes[spot][1] - low)
        rows.extend(some)
        operands.append(operand)
    number = operands[0]
    if len(operands) == 2:
        rows.append(do("mul", SPOT, operands[0], draft.lengths[array]))
        rows.append(do("add", SPOT, reg(SPOT), operands[1]))
        number = reg(SPOT)
    return rows + place_rows(number), (reg(SPOT), reg(SPOT_BEYOND))


def step_rows(draft, number, step):
    """Rows of a STEP in a ROUND."""
    word, array, indexes, expr = step
    source = draft.source(number)
    rows, worth = worth_rows(draft, expr, source, WORTH)
    if array in draft.cells:
        place = draft.cells[array]
        last = ("set", place, worth) if word == "put" else do("add", place, reg(place), worth)
        return rows + [last]
    cell_rows, spots = far_spots(draft, indexes)
    rows = rows + cell_rows
    if word == "add":
        rows.append(("load", WORTH_BEYOND, array, spots, source))
        rows.append(do("add", WORTH, reg(WORTH_BEYOND), worth))
        worth = reg(WORTH)
    return rows + [("store", array, spots, worth, source)]


def worth_rows(draft, expr, source, into):
    """A pair of rows, and the operand that tells the WORD of an EXPR behind them; they use registers from into on."""
    word = expr[0]
    if word == "num":
        return [], expr
    if word == "loop":
        return [], draft.where[expr[1]]
    if word == "at":
        return load_rows(draft, expr, source, into)
    rows, one = worth_rows(draft, expr[1], source, into)
    more, other = worth_rows(draft, expr[2], source, into + 1)
    return rows + more + [do(word, into, one, other)], reg(into)


def load_rows(draft, expr, source, into):
    """Such a pair of an EXPR that loads."""
    _, array, indexes = expr
    if array in draft.cells:
        return [], reg(draft.cells[array])
    if array in draft.nearby:
        rows, spots = near_spots(draft, array, indexes)
        return rows + [("load", into, draft.nearby[array], spots, source)], reg(into)
    rows, spots = far_spots(draft, indexes)
    return rows + [("load", into, array, spots, source)], reg(into)
