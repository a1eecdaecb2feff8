"""The LEAST PLAN of a nest by sizes, and the TABLES by which a looker sees that none moves less."""

from lanewright.errors import BadNumber, BadPaper, BadPlan
from lanewright.loose import free_loops
from lanewright.parts import is_row, is_same, sizes_by_name
from lanewright.plans import (
    MOST_LANES, NEAR_MOST, PLAN_USES, accesses_by_array, array_moves, array_uses, is_fit, is_lanes, moved, need_free,
    window_sizes,
)
from lanewright.programs import need_nest, need_program, need_sizes


def need_dealt(program, nest, loop, lanes, sizes):
    """None; refuses of anything what is no FREE loop of a nest, no LANES or no sizes."""
    need_free(program, nest, loop)
    if not is_lanes(lanes):
        raise BadNumber(lanes)
    need_sizes(program, sizes)


def need_sized_nest(program, nest, sizes):
    """None; refuses of anything what is no number of a nest, or no sizes."""
    need_program(program)
    need_nest(program, nest)
    need_sizes(program, sizes)


def shelf_by(program, nest, loop, lanes, sizes):
    """The SHELF, by what is known to be good."""
    named = sizes_by_name(program, sizes)
    by_array = accesses_by_array(program[2][nest])
    uses = array_uses(program, nest, loop)
    found = []
    for name in by_array:
        accesses = by_array[name]
        plain = sum(array_moves(program[2][nest], loop, lanes, named, accesses, ""))
        for use in uses[name]:
            windows = window_sizes(program[2][nest], loop, lanes, named, accesses) if use == "near" else []
            saving = plain - sum(array_moves(program[2][nest], loop, lanes, named, accesses, use))
            found.append((name, use, max(windows, default=0), saving))
    return tuple(found)


def rows_by_array(rows):
    """A list of lists of the rows of a SHELF that are of one array each, in order."""
    names = sorted(set([row[0] for row in rows]))
    return [[row for row in rows if row[0] == name] for name in names]


def choices_of(rows):
    """A list of pairs of all that may be chosen of a SHELF and is FIT: the SAVING, and the rows chosen."""
    found = [(0, 0, ())]
    for uses in rows_by_array(rows):
        found = found + [
            (weight + use[2], saving + use[3], (*chosen, use)) for weight, saving, chosen in found for use in uses
            if weight + use[2] <= NEAR_MOST
        ]
    return [(saving, chosen) for _, saving, chosen in found]


def plan_by(loop, lanes, chosen):
    """The PLAN with that LOOP and LANES by some rows of a SHELF."""
    parts = [tuple([row[0] for row in chosen if row[1] == use]) for use in PLAN_USES]
    return (loop, lanes, *parts)


def table_by(rows):
    """The TABLE of a SHELF."""
    found = [(0,) * (NEAR_MOST + 1)]
    for uses in rows_by_array(rows):
        ahead = found[-1]
        found.append(tuple([most_saved(ahead, uses, room) for room in range(NEAR_MOST + 1)]))
    return tuple(found)


def most_saved(ahead, uses, room):
    """The number that a TABLE has in a place, by the row ahead and the USES of an array."""
    return max([ahead[room]] + [ahead[room - use[2]] + use[3] for use in uses if use[2] <= room])


def dealings(program, nest):
    """A rising list of all pairs of a FREE loop and LANES."""
    return [(loop, lanes) for loop in free_loops(program, nest) for lanes in range(1, MOST_LANES + 1)]


def tables_by(program, nest, sizes):
    """A rising tuple of (LOOP, LANES, TABLE) of all FREE loops and LANES."""
    return tuple([(loop, lanes, table_by(shelf_by(program, nest, loop, lanes, sizes)))
                  for loop, lanes in dealings(program, nest)])


def least_plan(program, nest, sizes):
    """The LEAST PLAN; None of a nest without a FREE loop."""
    need_sized_nest(program, nest, sizes)
    best = None
    for loop, lanes in dealings(program, nest):
        for saving, chosen in choices_of(shelf_by(program, nest, loop, lanes, sizes)):
            # Two PLANS of one nest move as many words as each other, but for what they save.
            row = (-saving, lanes, plan_by(loop, lanes, chosen))
            if best is None or row < best:
                best = row
    return None if best is None else best[2]


def all_plans(program, nest, loop, lanes, sizes):
    """A rising list of the FIT PLANS with that LOOP and LANES."""
    need_dealt(program, nest, loop, lanes, sizes)
    chosen = choices_of(shelf_by(program, nest, loop, lanes, sizes))
    return sorted([plan_by(loop, lanes, rows) for _, rows in chosen])


def shelf(program, nest, loop, lanes, sizes):
    """The SHELF: a rising tuple of (NAME, USE, WEIGHT, SAVING)."""
    need_dealt(program, nest, loop, lanes, sizes)
    return shelf_by(program, nest, loop, lanes, sizes)


def table(program, nest, loop, lanes, sizes):
    """The TABLE: what can be saved by the arrays up to each, in so much room near."""
    need_dealt(program, nest, loop, lanes, sizes)
    return table_by(shelf_by(program, nest, loop, lanes, sizes))


def least_paper(program, nest, sizes):
    """A PAPER of the LEAST: (PLAN, TABLES); None of a nest without a FREE loop."""
    plan = least_plan(program, nest, sizes)
    return None if plan is None else (plan, tables_by(program, nest, sizes))


def check_least(program, nest, sizes, paper):
    """What the PLAN of a PAPER moves; refuses of anything what doesn't show that none moves less."""
    need_sized_nest(program, nest, sizes)
    if not is_row(paper, 2, 2) or not isinstance(paper[1], tuple) or not is_fit_plan(program, nest, paper[0], sizes):
        raise BadPaper(None)
    plan, shown = paper
    due = tables_by(program, nest, sizes)
    for number, row in enumerate(due):
        if number >= len(shown) or not is_same(shown[number], row):
            raise BadPaper(("table", row[0], row[1]))
    if len(shown) > len(due):
        raise BadPaper(("table", None))
    words = moved(program, nest, plan, sizes)
    if words > least_words(program, nest, sizes, due):
        raise BadPaper("least")
    return words


def is_fit_plan(program, nest, thing, sizes):
    """Whether anything is a FIT PLAN of a nest."""
    try:
        return is_fit(program, nest, thing, sizes)
    except BadPlan:
        return False


def least_words(program, nest, sizes, tables):
    """How many words a FIT PLAN must move at least, by the TABLES of a nest, at least one."""
    # With nothing near, held or local it is the same whatever the loop and the lanes are.
    plain = moved(program, nest, (tables[0][0], tables[0][1], (), (), ()), sizes)
    return plain - max([rows[-1][-1] for _, _, rows in tables])
