"""[60]: KERNELS of nests by PLANS."""

import collections
import itertools
import random
import unittest

from lanewright.clean import check_clean, clean_paper
from lanewright.compiled import kernel_of, kernels_of
from lanewright.errors import BadKind, BadNumber, BadPlan, BadProgram
from lanewright.kernels import need_kernel, row_at, rows_by_path
from lanewright.lanes import Lanes
from lanewright.loose import free_loops
from lanewright.plain import reads, stand_behind, tale
from lanewright.plans import is_fit, moved_parts, near_words, plain_plans
from lanewright.programs import accesses_of, need_program, rounds_at
from lanewright.steady import check_like, is_steady, like_paper
from tests.helper import (
    CROSS, LINE, MORE_PROGRAMS, ODD_NUMBERS, ODD_THINGS, PRODUCT, ROWS, Kept, Touchy, add, at, by, chance_program, fixed, given_for,
    num, put, refused, with_part,
)
from tests.test_leastplan import CHOICE, NEVER
from tests.test_plans import ALL_USES, LOCALS, nest_arrays, plans_of

SOME = MORE_PROGRAMS + [ALL_USES, LOCALS, NEVER, CHOICE] + [chance_program(seed) for seed in range(60)]
ALL = (("k", 1), ("m", 1), ("n", 1))


def leafy(leaves):
    """An EXPR of 16 leaves, five deep."""
    ops = itertools.cycle(["add", "sub", "mul", "max", "min"])
    while len(leaves) > 1:
        leaves = [(next(ops), one, other) for one, other in zip(leaves[::2], leaves[1::2])]
    return leaves[0]


def wide(loops, one, other, word="put"):
    """A nest with as many ACCESSES as may be, of as many arrays, EXPRS as deep as may be, COUNTS by as many sizes."""
    names = ["a", "b", "c", "d", "e"]
    arrays = tuple((name, "given", ((9, ALL), (9, ALL))) for name in names) + (("out", "told", ((9, ALL), (9, ALL))),)
    spots = [(name, more) for more in range(4) for name in names]
    steps = []
    for number in range(4):
        those = spots[number * 5:number * 5 + (4 if word == "add" else 5)]
        leaves = [at(name, (one, 1 + more // 2), (other, 2 + more // 2)) for name, more in those]
        leaves += [num(65535)] + [("loop", name) for name in (one, other) * 8 if name][:15 - len(those)]
        steps.append((word, "out", ((one, 1), (other, 1)), leafy(leaves)))
    return (("k", "m", "n"), arrays, ((loops, tuple(steps)),))


LONG = ("i", (-3, ALL)), ("j", (-3, ALL))
WIDE = [
    wide((*LONG, ("t", fixed(1))), "i", "j"), wide((("t", fixed(1)), *LONG), "j", "i", "add"), wide(LONG, "i", "i"),
    wide((*LONG, ("t", fixed(0))), "i", "j"), wide((LONG[1], ("t", by("k", 1, -1)), ("i", fixed(3))), "i", "i", "add"),
]
SQUARE = (("n",), (("a", "given", (by("n"), by("n"))), ("b", "told", (by("n"),))), (
    ((("i", by("n")), ("j", by("n"))), (add("b", (("i", 0),), at("a", ("j", 0), ("i", 0))),)),))
SUMS = (LINE[0], LINE[1], ((LINE[2][0][0], LINE[2][0][1][:1]),))
# Loops that never go, by some sizes or by none; lanes of which there are none.
EMPTY = (
    ("m", "n"),
    (("a", "given", (by("m", 1, 2),)), ("b", "told", (by("m"),)), ("c", "own", (by("m"), by("n")))),
    (
        (
            (("i", by("m")), ("j", by("n", 1, -1)), ("t", fixed(2))),
            (put("c", (("i", 0), ("j", 0)), at("a", ("i", 2))), add("b", (("i", 0),), ("add", at("c", ("i", 0), ("j", 0)), at("a", ("i", 0))))),
        ),
        ((("j", by("n", 3, -3)), ("i", by("m"))), (add("b", (("i", 0),), at("a", ("i", 1))),)),
        ((("i", fixed(0)),), (put("b", (("i", 0),), num(3)),)),
        ((("i", by("m")), ("t", fixed(0))), (add("b", (("i", 0),), at("a", ("t", 1))),)),
    ),
)


def source_of(row):
    """The SOURCE of a load or store, None of none."""
    return row[4] if len(row) == 5 else None


def chance_schedule(chance, there):
    return tuple(chance.choice(there) for _ in range(chance.choice([0, 7, 60, 400]))) if there else ()


def chance_plans(program, seed):
    """For each nest and FREE loop some PLANS by chance, LANES 1 and 8 among them."""
    chance = random.Random(seed)
    for nest in range(len(program[2])):
        for loop in free_loops(program, nest):
            for lanes in [1, 8, chance.randint(2, 7)]:
                plans = plans_of(program, nest, loop, lanes)
                for plan in {plans[0], plans[-1], chance.choice(plans)}:
                    yield nest, plan


class Kernels(unittest.TestCase):
    def form(self, program, nest, plan):
        """A KERNEL by need_kernel, with the PLAN's LANES, COUNT and NEAR arrays."""
        with Kept(self, program, plan):
            kernel = kernel_of(program, nest, plan)
        self.assertIsNone(need_kernel(program[0], program[1], kernel))
        self.assertEqual(kernel[:2], (plan[1], program[2][nest][0][plan[0]][1]))
        self.assertEqual(len(kernel[2]), len(plan[2]))
        self.assertIs(is_steady(program[0], program[1], kernel), True)
        paper = like_paper(program[0], program[1], kernel)
        self.assertIsNone(check_like(program[0], program[1], kernel, paper))
        for row in rows_by_path(kernel).values():
            if row[0] in ("load", "store"):
                source = source_of(row)
                self.assertTrue(source is not None and source[0] == nest and source[1] in (None, 0, 1, 2, 3))
        return kernel

    def runs(self, program, nest, plan, sizes, seed=0):
        """All that the document tells of a RUN by sizes by which the PLAN is FIT; whether it is."""
        kernel = self.form(program, nest, plan)
        if not is_fit(program, nest, plan, sizes):
            return False
        chance = random.Random(seed)
        given = given_for(program, sizes, seed)
        before, behind = [stand_behind(program, sizes, given, number) for number in (nest - 1, nest)]
        due = tuple(old if old[0] in plan[4] else new for old, new in zip(before, behind))
        lanes = Lanes(program[0], program[1], kernel, sizes, before)
        lanes.run(chance_schedule(chance, lanes.lanes_there()))
        self.assertEqual(lanes.end(), ("over",))
        self.assertIsNone(lanes.clash())
        self.assertIsNone(check_clean(kernel, lanes.events(), clean_paper(kernel, lanes.events())))
        self.assertEqual(lanes.far(), due)
        self.look_at_moves(program, nest, plan, sizes, lanes.events())
        self.look_at_sources(program, nest, plan, sizes, given, kernel, lanes.events())
        return True

    def look_at_moves(self, program, nest, plan, sizes, events):
        kinds = collections.Counter((event[4], event[3]) for event in events)
        for name, (loads, stores) in moved_parts(program, nest, plan, sizes).items():
            self.assertEqual((kinds[name, "load"], kinds[name, "store"]), (loads, stores), name)
        there = {access[1] for _, access in accesses_of(program, nest)}
        for name, _, _ in program[1]:
            self.assertTrue(name in there or (name, "load") not in kinds and (name, "store") not in kinds)

    def look_at_sources(self, program, nest, plan, sizes, given, kernel, events):
        """Of each ROUND of a lane each ACCESS one; far ones come to just the CELLS and WORDS of the walk."""
        apart = plan[3] + plan[4]
        far, near = collections.Counter(), collections.Counter()
        names = [array[0] for array in program[1]]
        rows = rows_by_path(kernel)
        for event in events:
            (group, lane), _, path, kind, name, cell, word = event
            _, step = source_of(rows[path])
            if step is not None and name in names:
                far[group * plan[1] + lane, step, kind, name, cell, word] += 1
            elif step is not None:
                near[group * plan[1] + lane, step, kind] += 1
            else:
                # A WINDOW is brought near, or a held cell loaded or stored.
                self.assertTrue(name in plan[3] or name not in names or (name in plan[2] and kind == "load"))
        due, due_near = collections.Counter(), collections.Counter()
        for kind, walked in [("load", reads(program, sizes, given)), ("store", tale(program, sizes, given))]:
            for number, step, spots, name, cell, word in walked:
                if number == nest and name in plan[2]:
                    due_near[spots[plan[0]], step, kind] += 1
                elif number == nest and name not in apart:
                    due[spots[plan[0]], step, kind, name, cell, word] += 1
        self.assertEqual(far, due)
        self.assertEqual(near, due_near)

    def test_by_chance(self):
        seen = {True: 0, False: 0}
        for seed, program in enumerate(SOME):
            chance = random.Random(seed)
            for nest, plan in chance_plans(program, seed):
                sizes = tuple(chance.choice([1, 1, 2, 3, 4, 5, 7]) for _ in program[0])
                seen[self.runs(program, nest, plan, sizes, chance.randrange(99))] += 1
        self.assertGreater(seen[True], 400)

    def test_the_least_and_the_greatest_sizes(self):
        for program in MORE_PROGRAMS + [ALL_USES, CHOICE]:
            for nest, plan in chance_plans(program, 3):
                if plan[1] in (1, 8) and plan[0] == 0:
                    for size in (1, 12):
                        if (size, nest) != (12, 0) or program != PRODUCT:
                            self.runs(program, nest, plan, (size,) * len(program[0]))

    def test_all_plans_of_one_nest(self):
        seen = 0
        for lanes in range(1, 9):
            for plan in plans_of(ALL_USES, 0, 0, lanes):
                for sizes in [(1, 1) if lanes % 2 else (2, 2), (5, 3)]:
                    seen += self.runs(ALL_USES, 0, plan, sizes, lanes)
        self.assertGreater(seen, 350)
        for lanes in (1, 2, 3, 5, 8):
            for plan in plans_of(ROWS, 0, 0, lanes):
                self.runs(ROWS, 0, plan, (6, 2), lanes)
            for plan in plans_of(PRODUCT, 0, lanes % 2, lanes):
                self.runs(PRODUCT, 0, plan, (3, 5, 4), lanes)

    def test_all_sizes(self):
        for plan in [(0, 3, ("raw",), (), ()), (0, 8, (), (), ("near",)), (0, 2, ("raw",), ("near",), ()), (0, 5, (), ("near",), ())]:
            for size in range(1, 13):
                self.assertTrue(self.runs(SUMS, 0, plan, (size,), size))
        for plan in [(0, 5, ("raw",), ("row",), ("spot",)), (0, 8, (), (), ()), (0, 1, ("raw",), (), ("spot",))]:
            for sizes in itertools.product((1, 2, 5, 8, 12), (1, 3, 12)):
                self.runs(ROWS, 0, plan, sizes, sum(sizes))

    def test_loops_that_never_go(self):
        for nest in range(4):
            for loop in free_loops(EMPTY, nest):
                for lanes in (1, 3, 8):
                    for plan in plans_of(EMPTY, nest, loop, lanes):
                        for sizes in [(1, 1), (4, 1), (3, 2)]:
                            self.assertTrue(self.runs(EMPTY, nest, plan, sizes, lanes))
        # Without ROUNDS held cells are loaded and stored, nothing else is.
        kernel = kernel_of(EMPTY, 0, (0, 2, ("a",), ("b",), ("c",)))
        lanes = Lanes(*EMPTY[:2], kernel, (3, 1), stand_behind(EMPTY, (3, 1), ((1, 2, 3, 4, 5),), -1))
        lanes.run()
        self.assertEqual([event[3:6] for event in lanes.events() if event[0] == (1, 0)], [("load", "b", (2,)), ("store", "b", (2,))])

    def test_as_much_as_may_be(self):
        most, fit = 0, 0
        for program in WIDE:
            need_program(program)
            self.assertEqual(len(accesses_of(program, 0)), 24)
            loops = free_loops(program, 0)
            self.assertGreater(len(loops), 0)
            for loop in loops:
                for near in ["", "ac", "abcde"]:
                    plan = (loop, (1, 8, 3)[len(near) // 2], tuple(name for name in near if name in nest_arrays(program, 0)), (), ())
                    most = max(most, len(rows_by_path(kernel_of(program, 0, plan))))
                    for sizes in [(2, 2, 2), (1, 2, 2)]:
                        if len(rounds_at(program, 0, sizes)) < 30:
                            fit += self.runs(program, 0, plan, sizes, loop)
        self.assertGreater(most, 250)
        self.assertGreater(fit, 40)

    def test_one_by_hand(self):
        """Two lanes a group, a window brought near, a held cell."""
        program = (("n",), (("a", "given", (by("n", 1, 1),)), ("s", "told", (by("n"),))), (
            ((("i", by("n")), ("t", fixed(2))), (add("s", (("i", 0),), ("sub", at("a", ("i", 1)), at("a", ("i", 0)))),)),))
        kernel = kernel_of(program, 0, (0, 2, ("a",), ("s",), ()))
        lanes = Lanes(*program[:2], kernel, (3,), (("a", (1, 4, 9, 16)), ("s", (5, 5, 5))))
        lanes.run()
        self.assertEqual((lanes.end(), lanes.far()), (("over",), (("a", (1, 4, 9, 16)), ("s", (11, 15, 19)))))
        near = kernel[2][0][0]
        self.assertNotIn(near, ("a", "s"))
        told = collections.Counter((event[3], event[4], source_of(row_at(kernel, event[2]))) for event in lanes.events())
        # Windows of three and of two words; of each of six ROUNDS two loads.
        self.assertEqual(told, {
            ("load", "a", (0, None)): 5, ("store", near, (0, None)): 5, ("load", near, (0, 0)): 12, ("load", "s", (0, None)): 3,
            ("store", "s", (0, None)): 3})

    def test_counts_of_all_kinds(self):
        counts = [fixed(3), by("n"), by("n", 1, 1), by("n", 1, 2), by("n", 1, -1), by("n", 2), by("m", 3, 1), by("m", 3, -3), (0, (("m", 1), ("n", 1))),
                  (-2, (("m", 1), ("n", 1))), (4, (("m", 1), ("n", 2))), fixed(0)]
        for number, one in enumerate(counts):
            other = counts[(number * 3 + 1) % len(counts)]
            dims = [(max(count[0], 1) if not count[1] else count[0] + 2, count[1]) for count in (one, other)]
            program = (("m", "n"), (("a", "given", tuple(dims)), ("b", "told", tuple(dims))), ((
                (("i", one), ("j", other)), (add("b", (("i", 0), ("j", 0)), ("add", at("a", ("i", 0), ("j", 0)), ("loop", "i"))),)),))
            need_program(program)
            for loop in (0, 1):
                for plan in [(loop, 3, (), (), ()), (loop, 2, ("a",), (), ()), (loop, 8, (), (), ())]:
                    for sizes in [(1, 1), (2, 3), (4, 1)]:
                        self.runs(program, 0, plan, sizes, number)

    def test_windows_that_just_fit(self):
        """64 words near, in each way in which there may be so many."""
        for sizes, plan in [((8,), (0, 8, ("a",), (), ())), ((8,), (0, 8, ("a",), ("b",), ()))]:
            self.assertEqual(near_words(SQUARE, 0, plan, sizes), 64)
            self.assertTrue(self.runs(SQUARE, 0, plan, sizes))
        long = (("n",), (("a", "given", (by("n", 3, 20), fixed(1))), ("b", "told", (by("n", 3, 20),))), ((
            (("i", by("n", 3)), ("j", by("n", 3, 19))), (add("b", (("i", 0),), ("sub", at("a", ("j", 0), ("", 0)), at("a", ("j", 1), ("", 0)))),)),))
        need_program(long)
        for lanes in (1, 3, 8):
            self.assertEqual(near_words(long, 0, (0, lanes, ("a",), (), ()), (12,)), 56)
            self.assertTrue(self.runs(long, 0, (0, lanes, ("a",), ("b",), ()), (12,)))

    def test_names_that_near_arrays_might_have(self):
        names = ["near" + letter for letter in "abcde"]
        arrays = tuple((name, "given", (by("n"),)) for name in names) + (("near", "told", (by("n"),)),)
        expr = at("neara", ("i", 0))
        for name in names[1:]:
            expr = ("add", expr, at(name, ("i", 0))) if name < "neare" else ("add", at(name, ("i", 0)), expr)
        program = (("n",), arrays, (((("i", by("n")),), (put("near", (("i", 0),), expr),)),))
        need_program(program)
        for near in [tuple(names), (), ("nearb",)]:
            for lanes in (1, 3, 8):
                self.assertTrue(self.runs(program, 0, (0, lanes, near, (), ()), (7,)))

    def test_local_arrays_stay_as_they_were(self):
        kernel = kernel_of(ROWS, 0, (0, 2, (), (), ("spot",)))
        stand = tuple((name, tuple(range(100, 100 + len(words)))) for name, words in stand_behind(ROWS, (2, 1), ((0,) * 4,), -1))
        lanes = Lanes(*ROWS[:2], kernel, (2, 1), stand)
        lanes.run()
        self.assertEqual((lanes.end(), dict(lanes.far())["spot"]), (("over",), dict(stand)["spot"]))
        self.assertNotEqual(dict(lanes.far())["row"], dict(stand)["row"])

    def test_behind_any_stand(self):
        """What stands there needn't be what the walk brings there: of each STAND comes what the plain loops make of it."""
        chance = random.Random(4)
        for program in [ROWS, ALL_USES, LOCALS, CROSS]:
            for nest, plan in chance_plans(program, 8):
                sizes = (4, 3)[:len(program[0])]
                if not is_fit(program, nest, plan, sizes):
                    continue
                told = tuple((name, "given" if not stored(program, nest, name) else kind, dims) for name, kind, dims in program[1])
                words = tuple((name, tuple(chance.choice([0, 65535, chance.randrange(65536)]) for _ in row))
                              for name, row in stand_behind(program, sizes, given_for(program, sizes), -1))
                # The same nest, ahead of it one that stores such WORDS isn't wanted: those not given are 0.
                words = tuple((name, row if kind == "given" else (0,) * len(row)) for (name, kind, _), (_, row) in zip(told, words))
                alone = (program[0], told, (program[2][nest],))
                given = tuple(row for (_, kind, _), (_, row) in zip(told, words) if kind == "given")
                due = stand_behind(alone, sizes, given, 0)
                lanes = Lanes(*program[:2], kernel_of(program, nest, plan), sizes, words)
                lanes.run()
                self.assertEqual([pair for pair in lanes.far() if pair[0] not in plan[4]], [pair for pair in due if pair[0] not in plan[4]])


def stored(program, nest, name):
    return any(access[:2] == ("store", name) for _, access in accesses_of(program, nest))


class All(unittest.TestCase):
    def test_a_list_and_a_tuple(self):
        for program in [ROWS, LINE, ALL_USES]:
            if all(free_loops(program, nest) for nest in range(len(program[2]))):
                plans = plain_plans(program)
                with Kept(self, program, plans):
                    kernels = kernels_of(program, plans)
                self.assertIs(type(kernels), list)
                self.assertEqual(kernels, [kernel_of(program, nest, plan) for nest, plan in enumerate(plans)])
                self.assertEqual(kernels_of(program=program, plans=tuple(plans)), kernels)
                kernels.clear()
                self.assertEqual(len(kernels_of(program, plans)), len(plans))
        self.assertEqual(kernel_of(program=ROWS, nest=1, plan=(0, 1, (), (), ())), kernel_of(ROWS, 1, (0, 1, (), (), ())))


class Refused(unittest.TestCase):
    PLAN = (0, 1, (), (), ())

    def test_programs(self):
        for thing in ODD_THINGS:
            place = ("sizes",) if isinstance(thing, tuple) and len(thing) == 3 else None
            refused(self, BadProgram, "place", place, kernel_of, thing, Touchy(), Touchy())
            refused(self, BadProgram, "place", place, kernels_of, thing, Touchy())
        wrong = with_part(ROWS, (2, 1, 1, 0, 0), "sub")
        refused(self, BadProgram, "place", ("nest", 1, "step", 0), kernel_of, wrong, 0, self.PLAN)
        refused(self, BadProgram, "place", ("nest", 1, "step", 0), kernels_of, wrong, [self.PLAN] * 3)

    def test_numbers_and_plans(self):
        for nest in [*ODD_NUMBERS, 3, -1]:
            refused(self, BadNumber, "about", nest, kernel_of, ROWS, nest, Touchy())
        for plan in ODD_THINGS:
            refused(self, BadPlan, "about", None, kernel_of, ROWS, 1, plan) if not is_five(plan) else None
        for about, plan in [(0, (1, 1, (), (), ())), (0, (Touchy(),) * 5), (1, (0, 0, (), (), ())), (1, (0, 9, Touchy(), (), ())),
                            (2, (0, 1, ("out",), (), ())), (3, (0, 1, (), ("raw",), ())), (4, (0, 1, (), (), ("row",))), (4, (0, 1, (), (), []))]:
            refused(self, BadPlan, "about", about, kernel_of, ROWS, 1 if about != 3 else 0, plan)

    def test_rows_of_plans(self):
        for plans in [thing for thing in ODD_THINGS if not (isinstance(thing, (list, tuple)) and len(thing) == 3)]:
            refused(self, BadKind, "wanted", "plans", kernels_of, ROWS, plans)
        for plans in [[self.PLAN] * 2, (self.PLAN,) * 4, {0: self.PLAN, 1: self.PLAN, 2: self.PLAN}, range(3), "abc", {1, 2, 3}]:
            refused(self, BadKind, "wanted", "plans", kernels_of, ROWS, plans)
        refused(self, BadPlan, "about", 1, kernels_of, ROWS, [self.PLAN, (0, 9, (), (), ()), None])
        refused(self, BadPlan, "about", None, kernels_of, ROWS, (self.PLAN, self.PLAN, [0, 1, (), (), ()]))
        refused(self, BadPlan, "about", 3, kernels_of, ROWS, ((0, 1, (), ("raw",), ()), None, None))
        for thing in ODD_THINGS:
            if not is_five(thing):
                refused(self, BadPlan, "about", None, kernels_of, ROWS, [self.PLAN, thing, Touchy()])


def is_five(thing):
    return isinstance(thing, tuple) and len(thing) == 5


if __name__ == "__main__":
    unittest.main()
