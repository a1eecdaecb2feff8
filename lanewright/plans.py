"""PLANS of a nest: a FREE loop dealt to GROUPS of lanes, arrays near, held or local, and the words that it moves."""

from lanewright.counts import count_at, counts_at
from lanewright.errors import BadNumber, BadPlan, NoSuch, Unfit
from lanewright.loose import free_loops, is_free
from lanewright.parts import (
    are_alike, arrays_by_name, is_one_of, is_row, loop_counts, multiplied, nest_accesses, sizes_by_name,
)
from lanewright.programs import need_nest, need_program, need_sizes
from lanewright.words import is_whole

NEAR_MOST = 64
MOST_LANES = 8
# The parts of a PLAN that are NAMES, from the first one on.
PLAN_USES = ("near", "held", "local")
FIRST_USE = 2


def need_plan(program, nest, plan):
    """None; refuses of anything what is no PLAN of a nest."""
    need_program(program)
    need_nest(program, nest)
    if not is_row(plan, 5, 5):
        raise BadPlan(None)
    if not is_whole(plan[0], most=len(program[2][nest][0]) - 1) or not is_free(program, nest, plan[0]):
        raise BadPlan(0)
    if not is_lanes(plan[1]):
        raise BadPlan(1)
    may = array_uses(program, nest, plan[0])
    ahead = []
    for number, use in enumerate(PLAN_USES):
        names = plan[FIRST_USE + number]
        if not is_rising_row(names, [name for name in may if use in may[name] and name not in ahead]):
            raise BadPlan(FIRST_USE + number)
        ahead.extend(names)


def is_lanes(thing):
    """Whether anything is a number of LANES."""
    return is_whole(thing, least=1, most=MOST_LANES)


def is_rising_row(thing, names):
    """Whether anything is a rising tuple of some of these names."""
    if not is_row(thing, 0, len(names)):
        return False
    last = ""
    for name in thing:
        if not is_one_of(name, names) or name <= last:
            return False
        last = name
    return True


def need_free(program, nest, loop):
    """None; refuses of anything what is no number of a FREE loop of a nest."""
    if not is_free(program, nest, loop):
        raise BadNumber(loop)


def accesses_by_array(nest):
    """A dict from the NAMES of the arrays of a nest's ACCESSES, rising, to lists of their ACCESSES, in order."""
    accesses = [access for _, access in nest_accesses(nest)]
    names = sorted(set([access[1] for access in accesses]))
    return {name: [access for access in accesses if access[1] == name] for name in names}


def array_uses(program, nest, loop):
    """A dict from the NAMES of the arrays of a nest's ACCESSES, rising, to rising lists of their USES."""
    by_array = accesses_by_array(program[2][nest])
    name = program[2][nest][0][loop][0]
    found = {}
    for array in by_array:
        may = [("held", may_be_held(by_array[array], name)), ("local", may_be_local(program, nest, by_array[array])),
               ("near", may_be_near(by_array[array]))]
        found[array] = [use for use, good in may if good]
    return found


def may_be_held(accesses, name):
    """Whether an array with these ACCESSES may be HELD by lanes that have the loop of that name."""
    if not are_alike([access[2] for access in accesses]):
        return False
    stand = [loop for loop, _ in accesses[0][2] if loop != ""]
    return "store" in kinds_of(accesses) and len(stand) > 0 and are_alike([name, *stand])


def may_be_local(program, nest, accesses):
    """Whether an array with these ACCESSES in a nest may be LOCAL there."""
    name = accesses[0][1]
    if arrays_by_name(program[1])[name][1] != "own" or accesses[0][0] != "store":
        return False
    others = [other for number, other in enumerate(program[2]) if number != nest]
    elsewhere = [name in accesses_by_array(other) for other in others]
    return not any(elsewhere) and are_alike([access[2] for access in accesses])


def may_be_near(accesses):
    """Whether an array with these ACCESSES may be NEAR."""
    return "store" not in kinds_of(accesses) and are_alike([[loop for loop, _ in access[2]] for access in accesses])


def kinds_of(accesses):
    """A list of the KINDS of ACCESSES."""
    return [access[0] for access in accesses]


def groups_by(nest, loop, lanes, named):
    """How many GROUPS have the numbers of a loop, by a dict of sizes."""
    return (count_at(nest[0][loop][1], named) + lanes - 1) // lanes


def window_by(nest, loop, lanes, named, group, accesses):
    """The WINDOW that a group has of an array with these ACCESSES."""
    spans = {"": (0, 1)}
    for number, (name, count) in enumerate(nest[0]):
        low, high = 0, count_at(count, named)
        if number == loop:
            low, high = group * lanes, min(group * lanes + lanes, high)
        if low >= high:
            return ()
        spans[name] = (low, high)
    found = []
    for dim, (name, _) in enumerate(accesses[0][2]):
        more = [access[2][dim][1] for access in accesses]
        low, high = spans[name]
        found.append((low + min(more), high + max(more)))
    return tuple(found)


def words_in(spans):
    """How many CELLS a WINDOW has."""
    return 0 if len(spans) == 0 else multiplied([high - low for low, high in spans])


def window_sizes(nest, loop, lanes, named, accesses):
    """A list of how many words the WINDOWS of all groups have of an array with these ACCESSES."""
    groups = groups_by(nest, loop, lanes, named)
    return [words_in(window_by(nest, loop, lanes, named, group, accesses)) for group in range(groups)]


def array_moves(nest, loop, lanes, named, accesses, use):
    """(LOADS, STORES) far of an array with these ACCESSES, by its USE, "" of none."""
    if use == "local":
        return 0, 0
    if use == "held":
        many = count_at(nest[0][loop][1], named)
        return many, many
    if use == "near":
        return sum(window_sizes(nest, loop, lanes, named, accesses)), 0
    rounds = multiplied(counts_at(loop_counts(nest[0]), named))
    kinds = kinds_of(accesses)
    return kinds.count("load") * rounds, kinds.count("store") * rounds


def uses_by_plan(plan):
    """A dict from the NAMES in a PLAN to their USES."""
    return {name: use for number, use in enumerate(PLAN_USES) for name in plan[FIRST_USE + number]}


def parts_by_plan(program, nest, plan, sizes):
    """A dict from the NAMES of the arrays of a nest's ACCESSES, rising, to (LOADS, STORES) far."""
    named = sizes_by_name(program, sizes)
    by_array = accesses_by_array(program[2][nest])
    uses = uses_by_plan(plan)
    return {name: array_moves(program[2][nest], plan[0], plan[1], named, by_array[name], uses.get(name, ""))
            for name in by_array}


def near_by_plan(program, nest, plan, sizes):
    """NEAR WORDS of what is known to be a PLAN."""
    named = sizes_by_name(program, sizes)
    by_array = accesses_by_array(program[2][nest])
    windows = [window_sizes(program[2][nest], plan[0], plan[1], named, by_array[name]) for name in plan[FIRST_USE]]
    return sum([max(many, default=0) for many in windows])


def need_planned(program, nest, plan, sizes):
    """None; refuses of anything what is no PLAN of a nest, or no sizes."""
    need_plan(program, nest, plan)
    need_sizes(program, sizes)


def groups_of(program, nest, plan, sizes):
    """How many GROUPS there are."""
    need_planned(program, nest, plan, sizes)
    return groups_by(program[2][nest], plan[0], plan[1], sizes_by_name(program, sizes))


def window(program, nest, plan, sizes, group, array):
    """The WINDOW that a group has of an array that may be NEAR; () of an empty one."""
    need_planned(program, nest, plan, sizes)
    named = sizes_by_name(program, sizes)
    if not is_whole(group, most=groups_by(program[2][nest], plan[0], plan[1], named) - 1):
        raise BadNumber(group)
    by_array = accesses_by_array(program[2][nest])
    if not is_one_of(array, by_array) or not may_be_near(by_array[array]):
        raise NoSuch(array)
    return window_by(program[2][nest], plan[0], plan[1], named, group, by_array[array])


def moved(program, nest, plan, sizes):
    """How many words are MOVED."""
    return sum([loads + stores for loads, stores in moved_parts(program, nest, plan, sizes).values()])


def moved_parts(program, nest, plan, sizes):
    """A dict from the NAMES of all arrays of a nest's ACCESSES, rising, to (LOADS, STORES) far."""
    need_planned(program, nest, plan, sizes)
    return parts_by_plan(program, nest, plan, sizes)


def near_words(program, nest, plan, sizes):
    """NEAR WORDS: as many as the greatest WINDOWS of all NEAR arrays have together."""
    need_planned(program, nest, plan, sizes)
    return near_by_plan(program, nest, plan, sizes)


def is_fit(program, nest, plan, sizes):
    """Whether a PLAN is FIT by these sizes."""
    return near_words(program, nest, plan, sizes) <= NEAR_MOST


def may_be(program, nest, loop, array):
    """A rising list of the USES that an array may have in a nest."""
    need_free(program, nest, loop)
    may = array_uses(program, nest, loop)
    if not is_one_of(array, may):
        raise NoSuch(array)
    return may[array]


def plain_plans(program):
    """A list of a PLAN for each nest: its first FREE loop, 1 lane, and nothing near, held or local."""
    need_program(program)
    found = []
    for nest in range(len(program[2])):
        free = free_loops(program, nest)
        if len(free) == 0:
            raise Unfit(nest)
        found.append((free[0], 1, (), (), ()))
    return found
