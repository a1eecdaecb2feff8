"""[62] to [64]: runs by PLANS, KERNELS that are TRIED, Lines."""

import random
import unittest

from lanewright.clean import words_moved
from lanewright.compiled import kernel_of, kernels_of
from lanewright.errors import BadGiven, BadKernel, BadKind, BadPlan, BadProgram, BadSchedule, BadSizes, Gone, Unfit
from lanewright.kernels import rows_by_path
from lanewright.lanes import Lanes, run_lanes
from lanewright.led import Line, first_event, run_led, tried, words_led
from lanewright.ledger import Turning, all_safe
from lanewright.loose import free_loops
from lanewright.plain import plain_run, stand_behind, tale
from lanewright.plans import is_fit, moved
from tests.helper import (
    CROSS, MORE_PROGRAMS, ODD_THINGS, PRODUCT, ROWS, Kept, Touchy, add, at, by, chance_program, fixed, given_for, num, put, refused,
    with_part,
)
from tests.test_clean import slow_clash_of
from tests.test_compiled import EMPTY, chance_schedule
from tests.test_plans import ALL_USES, LOCALS, plans_of


def all_free(program):
    return all(free_loops(program, nest) for nest in range(len(program[2])))


SOME = [program for program in MORE_PROGRAMS + [ALL_USES, LOCALS, EMPTY] + [chance_program(seed) for seed in range(90)] if all_free(program)]
# The second nest's plan fits by small sizes alone.
TIGHT = (
    ("n",),
    (("a", "given", (by("n"), by("n"))), ("b", "told", (by("n"),)), ("c", "own", (by("n"),))),
    (
        ((("i", by("n")),), (put("b", (("i", 0),), num(7)),)),
        ((("i", by("n")), ("j", by("n"))), (add("b", (("i", 0),), at("a", ("j", 0), ("i", 0))),)),
        ((("i", by("n")),), (put("c", (("i", 0),), num(1)), add("b", (("i", 0),), at("c", ("i", 0))))),
    ),
)
PLAIN = (0, 1, (), (), ())
TIGHT_PLANS = (PLAIN, (0, 8, ("a",), ("b",), ()), (0, 4, (), (), ("c",)))
GIVEN = (tuple(range(10, 19)),)


def chance_fit(program, sizes, chance):
    """A PLAN for each nest, FIT by these sizes."""
    found = []
    for nest in range(len(program[2])):
        loop = chance.choice(free_loops(program, nest))
        plans = [plan for plan in plans_of(program, nest, loop, chance.randint(1, 8)) if is_fit(program, nest, plan, sizes)]
        found.append(chance.choice(plans))
    return found


def small_sizes(program, chance):
    return tuple(chance.choice([1, 1, 2, 3, 4, 6]) for _ in program[0])


def schedules_for(program, plans, sizes, chance, many):
    found = []
    for nest in range(many):
        stand = stand_behind(program, sizes, given_for(program, sizes), -1)
        there = Lanes(*program[:2], kernel_of(program, nest, plans[nest]), sizes, stand).lanes_there()
        found.append(chance_schedule(chance, there))
    return tuple(found)


class RunLed(unittest.TestCase):
    def test_against_the_plain_walk(self):
        chance = random.Random(62)
        for program in SOME:
            for many in (0, 1, len(program[2])):
                sizes = small_sizes(program, chance)
                given = given_for(program, sizes, chance.randrange(99))
                plans = chance_fit(program, sizes, chance)
                schedules = schedules_for(program, plans, sizes, chance, many)
                with Kept(self, program, plans, sizes, given, schedules):
                    told = run_led(program, plans, sizes, given, schedules=schedules)
                self.assertEqual(told, plain_run(program, sizes, given))
                self.assertEqual(words_led(program, plans, sizes, given), tuple(
                    moved(program, nest, plan, sizes) for nest, plan in enumerate(plans)))

    def test_behind_safe_turns(self):
        chance = random.Random(5)
        seen = 0
        for program in SOME + [CROSS]:
            sizes = small_sizes(program, chance)
            given = given_for(program, sizes, 7)
            due = plain_run(program, sizes, given)
            turning = Turning(program)
            for _ in range(4):
                turns = [turn for nest in range(len(turning.now()[2])) for turn in all_safe(turning.now(), nest)]
                if turns:
                    turning.do(chance.choice(turns))
            now = turning.now()
            if not all_free(now):
                continue
            seen += len(turning) > 0
            plans = chance_fit(now, sizes, chance)
            schedules = schedules_for(now, plans, sizes, chance, chance.randint(0, len(plans)))
            self.assertEqual(run_led(now, tuple(plans), sizes, given, schedules=schedules), due)
        self.assertGreater(seen, 20)

    def test_great_sizes(self):
        plans = [(0, 7, ("raw",), ("row",), ("spot",)), (0, 8, (), ("out",), ()), (0, 2, (), ("out",), ())]
        given = given_for(ROWS, (12, 12))
        with self.assertRaises(Unfit):
            run_led(ROWS, plans, (12, 12), given)
        plans[0] = (0, 1, ("raw",), ("row",), ("spot",))
        self.assertEqual(run_led(ROWS, plans, (12, 12), given), plain_run(ROWS, (12, 12), given))

    def test_plans_that_just_fit(self):
        for size, fit in [(8, True), (9, False)]:
            given = given_for(TIGHT, (size,))
            if fit:
                self.assertEqual(run_led(TIGHT, TIGHT_PLANS, (size,), given), plain_run(TIGHT, (size,), given))
                self.assertEqual(words_led(TIGHT, TIGHT_PLANS, (size,), given), (8, 64 + 16, 16))
                self.assertEqual(len(Line(TIGHT, TIGHT_PLANS, (size,), given)), 3)
            else:
                for call in (run_led, words_led, Line):
                    refused(self, Unfit, "about", 1, call, TIGHT, TIGHT_PLANS, (size,), given)

    def test_no_told_arrays_and_nothing_given(self):
        program = (("n",), (("a", "own", (by("n"),)),), (((("i", by("n")),), (put("a", (("i", 0),), ("loop", "i")),)),))
        self.assertEqual(run_led(program, [PLAIN], (3,), ()), ())
        self.assertEqual(words_led(program, [PLAIN], (3,), ()), (3,))
        self.assertEqual(words_led(program=program, plans=[(0, 2, (), (), ("a",))], sizes=(3,), given=()), (0,))

    def test_a_list_and_a_tuple_and_names(self):
        given = (tuple(range(9)),)
        due = plain_run(TIGHT, (3,), given)
        for plans in [TIGHT_PLANS, list(TIGHT_PLANS)]:
            self.assertEqual(run_led(program=TIGHT, plans=plans, sizes=(3,), given=given, schedules=()), due)
            self.assertEqual(words_led(TIGHT, plans, (3,), given), (3, 15, 6))

    def test_schedules_that_do_not_fit(self):
        given = (tuple(range(9)),)
        there = ((0, 0), (2, 0), (1, 0))
        self.assertEqual(run_led(TIGHT, TIGHT_PLANS, (3,), given, schedules=(there * 50, ((0, 7), (0, 0)), ())), plain_run(TIGHT, (3,), given))
        for about, schedule in [(None, [(0, 0)]), (0, ((3, 0),)), (2, ((0, 0), (1, 0), (0, 1))), (1, ((0, 0), 5)), (0, (Touchy(),)), (None, None)]:
            refused(self, BadSchedule, "about", about, run_led, TIGHT, TIGHT_PLANS, (3,), given, schedules=(schedule,))
            refused(self, BadSchedule, "about", about, run_led, TIGHT, TIGHT_PLANS[:1] * 3, (3,), given, schedules=((), schedule, Touchy()))
        refused(self, BadSchedule, "about", 0, run_led, TIGHT, TIGHT_PLANS, (3,), given, schedules=((), (), ((0, 4),)))
        refused(self, BadSchedule, "about", 1, run_led, TIGHT, TIGHT_PLANS, (3,), given, schedules=(((0, 0), (0, 1)), Touchy()))


def slow_tried(program, plans, kernels, sizes, given):
    """What tried tells, by the words of the document."""
    for nest, kernel in enumerate(kernels):
        before, due = [stand_behind(program, sizes, given, number) for number in (nest - 1, nest)]
        end, stand, events = run_lanes(*program[:2], kernel, sizes, before)
        if end != ("over",):
            return (nest, "end", end)
        if slow_clash_of(kernel, events) is not None:
            return (nest, "clash", slow_clash_of(kernel, events))
        for (name, words), (_, told), (_, _, dims) in zip(due, stand, program[1]):
            for number, (one, other) in enumerate(zip(words, told)):
                if one != other and name not in plans[nest][4]:
                    cell = cell_of(program, dims, sizes, number)
                    mine = [event for event in events if event[3] == "store" and (event[4], event[5]) == (name, cell)]
                    rows = [row for row in tale(program, sizes, given) if row[0] == nest and (row[3], row[4]) == (name, cell)]
                    return (nest, "cell", (name, cell, one, other, (mine or [None])[-1], (rows or [None])[-1]))
    return None


def cell_of(program, dims, sizes, number):
    named = dict(zip(program[0], sizes))
    sides = [dim[0] + sum(times * named[name] for name, times in dim[1]) for dim in dims]
    return (number,) if len(sides) == 1 else divmod(number, sides[1])


def slow_first(program, plans, kernels, sizes, given):
    for nest, kernel in enumerate(kernels):
        before = stand_behind(program, sizes, given, nest - 1)
        _, _, events = run_lanes(*program[:2], kernel, sizes, before)
        for event in events:
            if event[3] == "store" and event[4] in dict(before) and event[4] not in plans[nest][4]:
                dims = [array[2] for array in program[1] if array[0] == event[4]][0]
                spots = [cell_of(program, dims, sizes, number) for number in range(len(dict(before)[event[4]]))]
                allowed = [dict(before)[event[4]][spots.index(event[5])]]
                allowed += [row[5] for row in tale(program, sizes, given) if row[0] == nest and (row[3], row[4]) == (event[4], event[5])]
                if event[6] not in allowed:
                    return (nest, event)
    return None


def spoilt(kernel, chance):
    """A KERNEL with one thing bent in what its lanes do in their ROUNDS; its loops go as far as they did."""
    paths = [path for path, row in rows_by_path(kernel).items() if path[0] == len(kernel[3]) - 1 and row[0] in ("do", "load", "store", "set")]
    path = chance.choice(paths)
    row = rows_by_path(kernel)[path]
    operand = chance.choice([("num", 0), ("num", 1), ("num", 40), ("lane",), ("group",), ("reg", 2)])
    if row[0] == "do":
        bent = chance.choice([("do", chance.choice(["add", "sub", "max"]), *row[2:]), (*row[:3], operand, row[4]), (*row[:4], operand)])
    elif row[0] == "set":
        bent = ("set", row[1], operand)
    elif row[0] == "load":
        bent = (*row[:3], (operand, *row[3][1:]), *row[4:])
    else:
        bent = chance.choice([(*row[:2], (operand, *row[2][1:]), *row[3:]), (*row[:3], operand, *row[4:]), ("set", 0, ("num", 0)), ("fence",)])
    return (*kernel[:3], with_row(kernel[3], path, bent))


def with_row(rows, path, row):
    if len(path) == 1:
        return rows[:path[0]] + (row,) + rows[path[0] + 1:]
    above = rows[path[0]]
    return rows[:path[0]] + ((*above[:-1], with_row(above[-1], path[1:], row)),) + rows[path[0] + 1:]


class Tried(unittest.TestCase):
    def test_as_they_were_made(self):
        chance = random.Random(63)
        for program in SOME:
            sizes = small_sizes(program, chance)
            given = given_for(program, sizes, 2)
            plans = chance_fit(program, sizes, chance)
            kernels = kernels_of(program, plans)
            with Kept(self, program, plans, kernels, sizes, given):
                self.assertIsNone(tried(program, plans, kernels, sizes, given))
                self.assertIsNone(first_event(program, plans, kernels, sizes, given))

    def test_spoilt_ones(self):
        chance = random.Random(64)
        seen = {}
        for seed in range(300):
            program = chance.choice(SOME)
            sizes = small_sizes(program, chance)
            given = given_for(program, sizes, 2)
            plans = chance_fit(program, sizes, chance)
            kernels = kernels_of(program, plans)
            for _ in range(chance.randint(1, 2)):
                nest = chance.randrange(len(kernels))
                kernels[nest] = spoilt(kernels[nest], chance)
            due, first = slow_tried(program, plans, kernels, sizes, given), slow_first(program, plans, kernels, sizes, given)
            if seed % 2:
                kernels = tuple(kernels)
            with Kept(self, kernels):
                self.assertEqual(tried(program, plans, kernels, sizes, given), due)
                self.assertEqual(first_event(program, plans, kernels, sizes, given), first)
            word = None if due is None else due[1]
            seen[word, first is None] = seen.get((word, first is None), 0) + 1
        for word in ("end", "clash", "cell", None):
            self.assertGreater(seen.get((word, True), 0) + seen.get((word, False), 0), 10, word)
        self.assertGreater(seen["cell", False], 50)

    def make(self, *rows, plan=PLAIN, lanes=1, nears=()):
        """A program of one nest that puts its loop into b, and tried, first_event of a kernel of these rows."""
        program = (("n",), (("c", "own", (by("n"),)), ("b", "told", (by("n"),)), ("d", "told", (fixed(2), fixed(2)))), (
            ((("i", by("n")),), (put("c", (("i", 0),), num(5)), put("b", (("i", 0),), at("c", ("i", 0))), add("b", (("i", 0),), num(1)))),))
        kernel = (lanes, by("n"), nears, rows)
        things = (program, [plan], [kernel], (3,), ())
        self.assertEqual(tried(*things), slow_tried(*things))
        self.assertEqual(first_event(*things), slow_first(*things))
        return tried(*things), first_event(program=program, plans=[plan], kernels=[kernel], sizes=(3,), given=())

    def test_a_finding_by_hand(self):
        here = ("group",)
        fives = ("store", "c", (here,), ("num", 5))
        good = ("store", "b", (here,), ("num", 6), (0, 2))
        self.assertEqual(self.make(fives, good), (None, None))
        # The first array, in order, and the first cell of it that are unlike.
        self.assertEqual(self.make(good)[0], (0, "cell", ("c", (0,), 5, 0, None, (0, 0, (0,), "c", (0,), 5))))
        self.assertEqual(self.make(fives)[0], (0, "cell", ("b", (0,), 6, 0, None, (0, 2, (0,), "b", (0,), 6))))
        self.assertIsNone(self.make(good)[1])
        # The event that stored there last, and the row that the walk stored there last.
        wrong = ("if", here, (("store", "b", (here,), ("num", 5)), ("store", "b", (here,), ("num", 9))))
        event = ((1, 0), 0, (2, 1), "store", "b", (1,), 9)
        self.assertEqual(self.make(fives, good, wrong), ((0, "cell", ("b", (1,), 6, 9, event, (0, 2, (1,), "b", (1,), 6))), (0, event)))
        # To the cell the walk never stores.
        stray = ("if", here, (("if", ("size", "n"), (("do", "div", 3, here, ("num", 2)), ("if", ("reg", 3), (
            ("store", "d", (("num", 1), ("num", 0)), ("num", 3)),)))),))
        event = ((2, 0), 0, (2, 0, 1, 0), "store", "d", (1, 0), 3)
        self.assertEqual(self.make(fives, good, stray), ((0, "cell", ("d", (1, 0), 0, 3, event, None)), (0, event)))
        # What stood there at the beginning, or stands there in between, errs in no event; at the end it does.
        event = ((0, 0), 0, (2,), "store", "b", (0,), 5)
        found, first = self.make(fives, good, ("store", "b", (here,), ("num", 5)))
        self.assertEqual((found, first), ((0, "cell", ("b", (0,), 6, 5, event, (0, 2, (0,), "b", (0,), 6))), None))
        self.assertIsNone(self.make(fives, good, ("store", "b", (here,), ("num", 0)))[1])
        self.assertEqual(self.make(fives, good, ("store", "b", (here,), ("num", 1)), good)[0], None)
        self.assertEqual(self.make(fives, good, ("store", "b", (here,), ("num", 1)), good)[1], (0, ((0, 0), 0, (2,), "store", "b", (0,), 1)))

    def test_local_arrays_are_not_looked_at(self):
        good = ("store", "b", (("group",),), ("num", 6), (0, 2))
        local = (0, 1, (), (), ("c",))
        self.assertEqual(self.make(good, plan=local), (None, None))
        self.assertEqual(self.make(good, ("store", "c", (("group",),), ("num", 77)), plan=local), (None, None))
        self.assertEqual(self.make(good, ("store", "c", (("group",),), ("num", 77)))[0][2][3], 77)
        self.assertEqual(self.make(good, ("store", "c", (("group",),), ("num", 77)))[1], (0, ((0, 0), 0, (1,), "store", "c", (0,), 77)))
        # Near arrays aren't far ones.
        near = ("store", "near", (("num", 0),), ("num", 77))
        self.assertEqual(self.make(near, good, plan=local, nears=(("near", (fixed(1),)),)), (None, None))

    def test_ends_and_clashes_come_first(self):
        here, good = ("group",), ("store", "b", (("group",),), ("num", 6))
        local = (0, 1, (), (), ("c",))
        outside = self.make(good, ("load", 0, "b", (("num", 3),)), plan=local)
        self.assertEqual(outside, ((0, "end", ("outside", (0, 0), (1,))), None))
        # However the RUN ends its events are looked at.
        wrong = self.make(("store", "b", (here,), ("num", 8)), ("load", 0, "b", (("num", 3),)), plan=local)
        self.assertEqual(wrong, ((0, "end", ("outside", (0, 0), (1,))), (0, ((0, 0), 0, (0,), "store", "b", (0,), 8))))
        stuck = self.make(("if", ("lane",), (("fence",),)), ("fence",), lanes=2, plan=local)
        self.assertEqual(stuck[0], (0, "end", ("stuck", (0, 0), (1,))))
        every = tuple(("store", "b", (("num", number),), ("num", 6)) for number in range(3))
        events = tuple(((group, 0), 0, (0,), "store", "b", (0,), 6) for group in (0, 1))
        self.assertEqual(self.make(*every, plan=local), ((0, "clash", events), None))
        self.assertEqual(self.make(("store", "b", (("num", 0),), ("num", 9)), plan=local)[0][1], "clash")

    def test_a_run_that_is_too_long(self):
        again = ("loop", 0, ("num", 0), ("num", 65535), (("loop", 1, ("num", 0), ("num", 65535), ()),))
        kernels = [(1, by("n"), (), (again,)), *kernels_of(TIGHT, TIGHT_PLANS)[1:]]
        self.assertEqual(tried(TIGHT, TIGHT_PLANS, kernels, (3,), GIVEN), (0, "end", ("long",)))

    def test_the_first_nest_that_errs(self):
        given = (tuple(range(9)),)
        kernels = kernels_of(TIGHT, TIGHT_PLANS)
        nothing = (1, by("n"), (), ())
        for wrong, due in [((1,), 1), ((0, 2), 0), ((2, 1), 1), ((2,), 2), ((), None)]:
            some = [nothing if nest in wrong else kernel for nest, kernel in enumerate(kernels)]
            found = tried(TIGHT, TIGHT_PLANS, some, (3,), given)
            self.assertEqual(found[:2] if found else None, None if due is None else (due, "cell"))
            self.assertIsNone(first_event(TIGHT, TIGHT_PLANS, some, (3,), given))
        # Behind a nest that erred each starts where the walk stands there: so this one alone is told.
        noisy = (1, by("n"), (), (("store", "b", (("group",),), ("num", 999)),))
        found = first_event(TIGHT, TIGHT_PLANS, [nothing, kernels[1], noisy], (3,), given)
        self.assertEqual(found, (2, ((0, 0), 0, (0,), "store", "b", (0,), 999)))

    def test_plans_that_are_not_fit(self):
        """PLANS tell which arrays are local, FIT or not."""
        given = given_for(TIGHT, (12,))
        self.assertIs(is_fit(TIGHT, 1, TIGHT_PLANS[1], (12,)), False)
        kernels = kernels_of(TIGHT, [PLAIN, PLAIN, TIGHT_PLANS[2]])
        self.assertIsNone(tried(program=TIGHT, plans=TIGHT_PLANS, kernels=kernels, sizes=(12,), given=given))
        self.assertIsNone(first_event(TIGHT, TIGHT_PLANS, kernels, (12,), given))
        self.assertEqual(tried(TIGHT, [PLAIN] * 3, kernels, (12,), given)[:2], (2, "cell"))


class Lines(unittest.TestCase):
    def test_on_and_back(self):
        chance = random.Random(1)
        for program in SOME[:25]:
            sizes = small_sizes(program, chance)
            given = given_for(program, sizes, 3)
            plans = chance_fit(program, sizes, chance)
            with Kept(self, program, plans, sizes, given):
                line = Line(program, plans, sizes, given)
                many = len(plans)
                self.assertEqual((len(line), line.at(), repr(line)), (many, 0, "Line(0)"))
                stands = [line.stand()]
                self.assertEqual(stands[0], stand_behind(program, sizes, given, -1))
                schedules = schedules_for(program, plans, sizes, chance, many)
                for nest in range(many):
                    self.gone(line.result)
                    schedule = schedules[nest] if nest % 2 else ()
                    kernel = kernel_of(program, nest, plans[nest])
                    end, behind, events = run_lanes(*program[:2], kernel, sizes, line.stand(), schedule=schedule)
                    told = line.step(schedule) if nest % 2 else line.step()
                    self.assertEqual(told, (end, words_moved(kernel, events)))
                    self.assertEqual((end, line.stand(), line.at(), repr(line)), (("over",), behind, nest + 1, f"Line({nest + 1})"))
                    stands.append(behind)
                self.assertEqual(line.result(), plain_run(program, sizes, given))
                self.gone(line.step)
                self.gone(line.step, None)
                for nest in reversed(range(many)):
                    self.assertEqual(line.back(), nest)
                    self.assertEqual((line.stand(), line.at(), len(line)), (stands[nest], nest, many))
                    self.gone(line.result)
                self.gone(line.back)
                self.assertEqual((line.stand(), line.at()), (stands[0], 0))

    def gone(self, call, *things):
        with self.assertRaises(Gone) as seen:
            call(*things)
        self.assertIs(type(seen.exception), Gone)

    def test_what_is_refused_does_nothing(self):
        line = Line(TIGHT, TIGHT_PLANS, (3,), GIVEN)
        line.step()
        for about, schedule in [(None, [(0, 0)]), (0, ((1, 0),)), (1, ((0, 0), (0, 8))), (None, Touchy())]:
            before = line.line_twin()
            refused(self, BadSchedule, "about", about, line.step, schedule)
            self.assertEqual((line == before, line.at(), line.stand()), (True, 1, before.stand()))
        self.assertEqual(line.step(schedule=((0, 7), (0, 0)) * 20), (("over",), 15))
        line.step()
        # Gone comes ahead of a SCHEDULE that is none.
        self.gone(line.step, Touchy())
        self.assertEqual(line.at(), 3)
        self.assertEqual(line.result(), plain_run(TIGHT, (3,), GIVEN))

    def test_twins(self):
        line = Line(TIGHT, list(TIGHT_PLANS), (3,), GIVEN)
        line.step()
        twin = line.line_twin()
        self.assertTrue(line == twin)
        self.assertEqual((twin.at(), twin.stand(), len(twin)), (1, line.stand(), 3))
        twin.step()
        self.assertEqual((line.at(), twin.at(), line == twin), (1, 2, False))
        line.step()
        self.assertTrue(line == twin)
        line.back()
        line.back()
        self.assertEqual((line.at(), twin.at()), (0, 2))
        twin.step()
        self.assertEqual(twin.result(), plain_run(TIGHT, (3,), GIVEN))
        self.assertEqual(line.stand(), stand_behind(TIGHT, (3,), GIVEN, -1))

    def test_equal_ones(self):
        line = Line(TIGHT, TIGHT_PLANS, (3,), GIVEN)
        self.assertTrue(line == Line(program=TIGHT, plans=list(TIGHT_PLANS), sizes=(3,), given=GIVEN))
        other = with_part(TIGHT, (2, 0, 1, 0, 3), num(8))
        for things in [(other, TIGHT_PLANS, (3,), GIVEN), (TIGHT, ((0, 2, (), (), ()), *TIGHT_PLANS[1:]), (3,), GIVEN),
                       (TIGHT, (TIGHT_PLANS[0], PLAIN, PLAIN), (3,), GIVEN), (TIGHT, TIGHT_PLANS, (2,), (GIVEN[0][:4],)),
                       (TIGHT, TIGHT_PLANS, (3,), (GIVEN[0][::-1],))]:
            self.assertIs(line == Line(*things), False)
            self.assertIs(line != Line(*things), True)
        for thing in [None, 0, "Line(0)", TIGHT, Plain(), []]:
            self.assertIs(line == thing, False)
            self.assertIs(line != thing, True)
        # By which SCHEDULE a kernel was run isn't asked.
        one, two = line.line_twin(), line.line_twin()
        one.step()
        two.step(((2, 0), (1, 0)))
        self.assertTrue(one == two)

    def test_nothing_handed_in_is_kept(self):
        plans = list(TIGHT_PLANS)
        line = Line(TIGHT, plans, (3,), GIVEN)
        plans[0] = None
        plans.pop()
        self.assertEqual((len(line), line.step()), (3, (("over",), 3)))
        twin = line.line_twin()
        self.assertEqual(twin.step()[0], ("over",))

    def test_unfit(self):
        given = given_for(TIGHT, (12,))
        refused(self, Unfit, "about", 1, Line, TIGHT, TIGHT_PLANS, (12,), given)
        self.assertEqual(len(Line(TIGHT, [PLAIN] * 3, (12,), given)), 3)


class Plain:
    pass


class Refused(unittest.TestCase):
    CALLS = [(run_led, ()), (words_led, ()), (Line, ()), (tried, 3), (first_event, 3)]

    def bad(self, error, field, about, *things):
        """The same refusal by all, KERNELS being Touchy where they are wanted."""
        for call, at_ in self.CALLS:
            told = things if at_ == () else (*things[:2], Touchy(), *things[2:])
            refused(self, error, field, about, call, *told)
        refused(self, error, field, about, run_led, *things, schedules=Touchy())

    def test_in_order(self):
        nothing = Touchy()
        for thing in ODD_THINGS:
            place = ("sizes",) if isinstance(thing, tuple) and len(thing) == 3 else None
            self.bad(BadProgram, "place", place, thing, nothing, nothing, nothing)
            if not (isinstance(thing, (list, tuple)) and len(thing) == 3):
                self.bad(BadKind, "wanted", "plans", TIGHT, thing, nothing, nothing)
            if not (isinstance(thing, tuple) and len(thing) == 5):
                self.bad(BadPlan, "about", None, TIGHT, [PLAIN, thing, nothing], nothing, nothing)
            about = 0 if isinstance(thing, tuple) and len(thing) == 1 else None
            self.bad(BadSizes, "about", about, TIGHT, TIGHT_PLANS, thing, nothing)
            self.bad(BadGiven, "about", about, TIGHT, TIGHT_PLANS, (3,), thing)
        self.bad(BadPlan, "about", 2, TIGHT, (PLAIN, (0, 8, ("b",), (), ()), nothing), nothing, nothing)
        self.bad(BadSizes, "about", 0, TIGHT, TIGHT_PLANS, (13,), nothing)
        self.bad(BadSizes, "about", 0, TIGHT, TIGHT_PLANS, (0,), nothing)
        self.bad(BadGiven, "about", 0, TIGHT, TIGHT_PLANS, (3,), (GIVEN[0][:8],))
        # GIVEN comes ahead of PLANS that aren't FIT.
        self.bad(BadGiven, "about", None, TIGHT, TIGHT_PLANS, (12,), ())

    def test_schedules(self):
        given = given_for(TIGHT, (12,))
        for thing in [*ODD_THINGS, ((),) * 4, [(), ()]]:
            if not isinstance(thing, tuple) or len(thing) > 3:
                refused(self, BadKind, "wanted", "schedules", run_led, TIGHT, TIGHT_PLANS, (12,), given, schedules=thing)
        # Then PLANS that aren't FIT, then SCHEDULES that are none.
        refused(self, Unfit, "about", 1, run_led, TIGHT, TIGHT_PLANS, (12,), given, schedules=(None, Touchy()))
        refused(self, Unfit, "about", 0, run_led, PRODUCT, [(0, 8, ("a", "b"), (), ())], (1, 12, 12), given_for(PRODUCT, (1, 12, 12)))
        refused(self, Unfit, "about", 1, words_led, TIGHT, TIGHT_PLANS, (12,), given)
        refused(self, BadSchedule, "about", None, run_led, TIGHT, [PLAIN] * 3, (12,), given, schedules=(None, Touchy()))

    def test_kernels(self):
        good = kernels_of(TIGHT, TIGHT_PLANS)
        given = given_for(TIGHT, (12,))
        for call in (tried, first_event):
            for thing in ODD_THINGS:
                if not (isinstance(thing, (list, tuple)) and len(thing) == 3):
                    refused(self, BadKind, "wanted", "kernels", call, TIGHT, TIGHT_PLANS, thing, (12,), given)
                if not (isinstance(thing, tuple) and len(thing) == 4):
                    refused(self, BadKernel, "place", None, call, TIGHT, TIGHT_PLANS, [good[0], thing, Touchy()], (12,), given)
            refused(self, BadKind, "wanted", "kernels", call, TIGHT, TIGHT_PLANS, good[:2], (12,), given)
            refused(self, BadKind, "wanted", "kernels", call, TIGHT, TIGHT_PLANS, good + good[:1], (12,), given)
            refused(self, BadKernel, "place", (0,), call, TIGHT, TIGHT_PLANS, (good[0], good[1], (1, by("n"), (), (("fence", 1),))), (12,), given)
            refused(self, BadKernel, "place", "lanes", call, TIGHT, TIGHT_PLANS, (with_part(good[0], (0,), 9), None, None), (12,), given)
            refused(self, BadGiven, "about", None, call, TIGHT, TIGHT_PLANS, Touchy(), (12,), ())
            refused(self, BadSizes, "about", None, call, TIGHT, TIGHT_PLANS, Touchy(), (), Touchy())


if __name__ == "__main__":
    unittest.main()
