"""[40] to [43]: PLANS, GROUPS, WINDOWS, and the words that are MOVED."""

import itertools
import random
import unittest

from lanewright import plans
from lanewright.errors import BadNumber, BadPlan, BadProgram, BadSizes, NoSuch, Unfit
from lanewright.loose import free_loops
from lanewright.plain import reads, tale, traffic
from lanewright.plans import (
    groups_of, is_fit, may_be, moved, moved_parts, near_words, need_plan, plain_plans, window,
)
from lanewright.programs import accesses_of, rounds_at
from tests.helper import (
    CROSS, LINE, MORE_PROGRAMS, ODD_NUMBERS, ODD_THINGS, PRODUCT, ROWS, Kept, Touchy, add, at, by, chance_program, count_of, deep_list,
    fixed, given_for, num, put, refused, with_part,
)

SOME = MORE_PROGRAMS + [chance_program(seed) for seed in range(80)]
# All arrays of unlike USES: "aim" may be held or local, "cot" held, "den" local, "fog" near, "given" ones near or none.
ALL_USES = (
    ("m", "n"),
    (
        ("fog", "told", (by("m", 1, 3), by("n", 1, 5))),
        ("den", "own", (by("n"),)),
        ("cot", "told", (by("m", 1, 1), fixed(3))),
        ("aim", "own", (by("m"),)),
        ("bid", "given", (by("m", 1, 9), by("m", 1, 9))),
        ("elm", "given", (fixed(7),)),
    ),
    (
        (
            (("i", by("m")), ("j", by("n", 1, -1))),
            (
                put("aim", (("i", 0),), ("add", at("fog", ("i", 0), ("j", 1)), at("fog", ("i", 2), ("j", 4)))),
                add("cot", (("i", 1), ("", 2)), ("mul", at("aim", ("i", 0)), ("add", at("bid", ("i", 1), ("i", 3)), at("bid", ("i", 8), ("", 4))))),
                add("cot", (("i", 1), ("", 2)), ("add", at("elm", ("", 2)), at("elm", ("", 5)))),
            ),
        ),
        (
            (("i", by("m")),),
            (put("cot", (("i", 0), ("", 0)), at("cot", ("i", 0), ("", 1))),),
        ),
    ),
)
LOCALS = (
    ("m",),
    (
        ("a", "own", (by("m"),)), ("b", "own", (by("m"),)), ("c", "own", (by("m"),)), ("d", "told", (by("m"),)), ("e", "own", (by("m", 1, 1),)),
        ("f", "own", (by("m"),)),
    ),
    (
        (
            (("i", by("m")),),
            (
                put("a", (("i", 0),), num(1)),
                add("b", (("i", 0),), at("a", ("i", 0))),
                put("c", (("i", 0),), at("b", ("i", 0))),
                put("d", (("i", 0),), at("e", ("i", 1))),
            ),
        ),
        ((("i", by("m")),), (put("e", (("i", 1),), ("add", at("c", ("i", 0)), at("e", ("i", 1)))), put("f", (("i", 0),), num(3)))),
    ),
)


def nest_arrays(program, nest):
    return sorted({access[1] for _, access in accesses_of(program, nest)})


def slow_may_be(program, nest, loop, array):
    """The USES of an array, by the words of the document."""
    mine = [access for _, access in accesses_of(program, nest) if access[1] == array]
    name = program[2][nest][0][loop][0]
    found = []
    indexes = {access[2] for access in mine}
    loops = {index[0] for index in mine[0][2]} - {""}
    stored = any(access[0] == "store" for access in mine)
    if stored and len(indexes) == 1 and loops == {name}:
        found.append("held")
    everywhere = {k for k in range(len(program[2])) for _, access in accesses_of(program, k) if access[1] == array}
    kind = [row[1] for row in program[1] if row[0] == array][0]
    if kind == "own" and everywhere == {nest} and len(indexes) == 1 and mine[0][0] == "store":
        found.append("local")
    if not stored and all(len({access[2][dim][0] for access in mine}) == 1 for dim in range(len(mine[0][2]))):
        found.append("near")
    return found


def plans_of(program, nest, loop, lanes):
    """All PLANS of a nest with that LOOP and LANES."""
    arrays = nest_arrays(program, nest)
    found = []
    for uses in itertools.product(*[["", *slow_may_be(program, nest, loop, array)] for array in arrays]):
        parts = [tuple(array for array, use in zip(arrays, uses) if use == word) for word in ("near", "held", "local")]
        found.append((loop, lanes, *parts))
    return found


def some_plans(program, seed=0):
    chance = random.Random(seed)
    for nest in range(len(program[2])):
        for loop in free_loops(program, nest):
            for lanes in sorted({1, 8, chance.randint(2, 7)}):
                for plan in chance.sample(plans_of(program, nest, loop, lanes), min(3, len(plans_of(program, nest, loop, lanes)))):
                    yield nest, plan


def some_sizes(program):
    return [(1,) * len(program[0]), (12, 3, 2)[:len(program[0])], (5, 4, 3)[:len(program[0])]]


def boxes_of(program, nest, plan, sizes, array):
    """For each GROUP the cells of an array to which the walk comes by its lanes, boxed in dim by dim."""
    loops = program[2][nest][0]
    many = count_of(loops[plan[0]][1], dict(zip(program[0], sizes)))
    groups = [[] for _ in range(-(-many // plan[1]))]
    for row in reads(program, sizes, given_for(program, sizes)):
        if row[0] == nest and row[3] == array:
            groups[row[2][plan[0]] // plan[1]].append(row[4])
    return [tuple((min(side), max(side) + 1) for side in zip(*cells)) for cells in groups]


def words_of(box):
    many = 1 if box else 0
    for low, high in box:
        many *= high - low
    return many


def slow_parts(program, nest, plan, sizes):
    loop, lanes, near, held, local = plan
    given = given_for(program, sizes)
    numbers = count_of(program[2][nest][0][loop][1], dict(zip(program[0], sizes)))
    loaded = [row[3] for row in reads(program, sizes, given) if row[0] == nest]
    stored = [row[3] for row in tale(program, sizes, given) if row[0] == nest]
    found = {}
    for array in nest_arrays(program, nest):
        found[array] = (loaded.count(array), stored.count(array))
        if array in near:
            found[array] = (sum(map(words_of, boxes_of(program, nest, plan, sizes, array))), 0)
        elif array in held:
            found[array] = (numbers, numbers)
        elif array in local:
            found[array] = (0, 0)
    return found


class Forms(unittest.TestCase):
    def test_constants(self):
        self.assertEqual((plans.NEAR_MOST, plans.MOST_LANES), (64, 8))

    def test_good_ones(self):
        many = 0
        for program in SOME + [ALL_USES, LOCALS]:
            for nest in range(len(program[2])):
                for loop in free_loops(program, nest):
                    for plan in plans_of(program, nest, loop, 1 + many % 8):
                        with Kept(self, program, plan):
                            self.assertIsNone(need_plan(program, nest, plan))
                        many += 1
        self.assertGreater(many, 200)
        self.assertIsNone(need_plan(program=PRODUCT, nest=0, plan=(1, 8, ("a", "b"), (), ())))

    def bad(self, about, program, nest, plan):
        for call, rest in [(need_plan, ()), (groups_of, (None,)), (window, (None, None, None)), (moved, (None,)), (moved_parts, (None,)),
                           (near_words, (None,)), (is_fit, (None,))]:
            refused(self, BadPlan, "about", about, call, program, nest, plan, *rest)

    def test_none_of_no_tuple_of_five(self):
        for plan in ODD_THINGS + [(0, 1, (), ()), (0, 1, (), (), (), ()), [0, 1, (), (), ()], (0,) * 4, "plans", (Touchy(),) * 6]:
            self.bad(None, PRODUCT, 0, plan)

    def test_zero_of_no_free_loop(self):
        for loop in ODD_NUMBERS + [2, 3]:
            self.bad(0, PRODUCT, 0, (loop, None, None, None, None))
        self.bad(0, LINE, 0, (0, 1, (), (), ()))
        self.bad(0, PRODUCT, 0, (Touchy(),) * 5)

    def test_one_of_no_lanes(self):
        for lanes in ODD_NUMBERS + [0, 9]:
            self.bad(1, PRODUCT, 0, (0, lanes, None, None, None))
        for lanes in range(1, 9):
            self.assertIsNone(need_plan(PRODUCT, 0, (1, lanes, (), (), ())))

    def test_two_to_four_of_anything(self):
        for part in range(2, 5):
            for thing in ODD_THINGS + [[], "", ("",), (b"a",), ("zz",), ("i",), (Touchy(),), (("a",),), {}, 0]:
                if not isinstance(thing, tuple) or len(thing) > 0:
                    plan = with_part((0, 1, (), (), ()), (part,), thing)
                    self.bad(part, ALL_USES, 0, with_part(plan, (4,), None) if part < 4 else plan)

    def test_two_to_four_of_arrays_that_may_not_be_so(self):
        good = {"near": ("elm", "fog"), "held": ("aim", "cot"), "local": ("aim",)}
        for part, use in [(2, "near"), (3, "held"), (4, "local")]:
            for array in "aim bid cot den elm fog".split():
                plan = with_part((0, 3, (), (), ()), (part,), (array,))
                if array in good[use]:
                    self.assertIsNone(need_plan(ALL_USES, 0, plan))
                else:
                    self.bad(part, ALL_USES, 0, plan)

    def test_names_rise(self):
        self.assertIsNone(need_plan(ALL_USES, 0, (0, 1, ("elm", "fog"), ("aim", "cot"), ())))
        self.assertIsNone(need_plan(ALL_USES, 0, (0, 1, ("elm", "fog"), ("cot",), ("aim",))))
        self.bad(2, ALL_USES, 0, (0, 1, ("fog", "elm"), (), ()))
        self.bad(2, ALL_USES, 0, (0, 1, ("elm", "elm"), (), ()))
        self.bad(2, ALL_USES, 0, (0, 1, ["elm", "fog"], (), ()))
        self.bad(3, ALL_USES, 0, (0, 1, ("elm", "fog"), ("cot", "aim"), None))
        self.bad(3, ALL_USES, 0, (0, 1, ("elm", "fog"), ("aim", "aim"), None))
        self.bad(2, ALL_USES, 0, (0, 1, ("elm", "fog", "fog"), None, None))

    def test_none_in_two(self):
        self.bad(4, ALL_USES, 0, (0, 1, (), ("aim",), ("aim",)))
        self.bad(4, ALL_USES, 0, (0, 1, (), ("aim", "cot"), ("aim",)))
        self.bad(3, ALL_USES, 0, (0, 1, ("elm",), ("elm",), None))

    def test_the_first_part_is_told(self):
        bad = (None, None, None, None, None)
        for part in range(5):
            self.bad(part, ALL_USES, 0, (0, 1, (), (), ())[:part] + bad[part:])

    def test_of_each_nest_its_own(self):
        self.assertIsNone(need_plan(ALL_USES, 1, (0, 1, (), (), ())))
        self.bad(2, ALL_USES, 1, (0, 1, ("fog",), (), ()))
        self.bad(3, ALL_USES, 1, (0, 1, (), ("cot",), ()))


class Uses(unittest.TestCase):
    def test_by_hand(self):
        self.assertEqual([may_be(ALL_USES, 0, 0, name) for name in ("aim", "bid", "cot", "elm", "fog")],
                         [["held", "local"], [], ["held"], ["near"], ["near"]])
        self.assertEqual(may_be(program=ALL_USES, nest=1, loop=0, array="cot"), [])
        self.assertEqual([may_be(LOCALS, 0, 0, name) for name in "abcde"], [["held", "local"], ["held"], ["held"], ["held"], ["near"]])
        self.assertEqual([may_be(LOCALS, 1, 0, name) for name in "cef"], [["near"], ["held"], ["held", "local"]])
        self.assertEqual([may_be(PRODUCT, 0, loop, name) for loop in (0, 1) for name in "abc"], [["near"], ["near"], []] * 2)

    def test_held_by_the_loop_of_the_plan_alone(self):
        program = (("m",), (("a", "told", (by("m"),)), ("b", "told", (by("m"), by("m")))),
                   (((("i", by("m")), ("j", by("m"))), (put("b", (("i", 0), ("i", 0)), num(1)),)),))
        self.assertEqual(may_be(program, 0, 0, "b"), ["held"])
        other = with_part(program, (2, 0, 1, 0, 2), (("i", 0), ("j", 0)))
        self.assertEqual((free_loops(other, 0), may_be(other, 0, 0, "b"), may_be(other, 0, 1, "b")), ([0, 1], [], []))
        never = with_part(program, (2, 0), ((("i", by("m")), ("j", fixed(0))), (put("a", (("", 0),), num(1)),)))
        self.assertEqual((free_loops(never, 0), may_be(never, 0, 0, "a")), ([0, 1], []))

    def test_local_cells_have_like_indexes(self):
        program = (("m",), (("a", "own", (by("m", 1, 1),)), ("b", "told", (by("m"),))), ((
            (("i", by("m")), ("j", fixed(0))), (put("a", (("i", 0),), num(1)), put("b", (("i", 0),), at("a", ("i", 0)))),),))
        self.assertEqual(may_be(program, 0, 0, "a"), ["held", "local"])
        for index in [("i", 1), ("", 0), ("j", 0)]:
            self.assertEqual(may_be(with_part(program, (2, 0, 1, 1, 3, 2, 0), index), 0, 0, "a"), [])
        first = with_part(program, (2, 0, 1), (put("b", (("i", 0),), at("a", ("i", 0))), put("a", (("i", 0),), num(1))))
        self.assertEqual(may_be(first, 0, 0, "a"), ["held"])
        self.assertEqual(may_be(with_part(program, (2, 0, 1, 0, 0), "add"), 0, 0, "a"), ["held"])
        self.assertEqual(may_be(with_part(program, (2, 0, 1, 0, 3), at("a", ("i", 0))), 0, 0, "a"), ["held"])

    def test_local_cells_by_no_loop(self):
        program = (("m",), (("a", "own", (fixed(3),)),), (((("i", fixed(1)),), (put("a", (("", 2),), num(1)),)),))
        self.assertEqual(may_be(program, 0, 0, "a"), ["local"])
        self.assertEqual(may_be(with_part(program, (1, 0, 1), "told"), 0, 0, "a"), [])

    def test_against_the_words_of_the_document(self):
        seen = {}
        for program in SOME + [ALL_USES, LOCALS]:
            for nest in range(len(program[2])):
                for loop in free_loops(program, nest):
                    for array in nest_arrays(program, nest):
                        with Kept(self, program):
                            told = may_be(program, nest, loop, array)
                        self.assertEqual(told, slow_may_be(program, nest, loop, array))
                        seen[tuple(told)] = seen.get(tuple(told), 0) + 1
                        told.append("more")
                        self.assertEqual(may_be(program, nest, loop, array), told[:-1])
        self.assertEqual(sorted(seen), [(), ("held",), ("held", "local"), ("local",), ("near",)])

    def test_refused(self):
        for loop in ODD_NUMBERS + [2, 3]:
            refused(self, BadNumber, "about", loop, may_be, PRODUCT, 0, loop, None)
        for name in ODD_THINGS + ["d", "i", "m", ("a",), b"a"]:
            refused(self, NoSuch, "name", name, may_be, PRODUCT, 0, 0, name)
        refused(self, NoSuch, "name", "fog", may_be, ALL_USES, 1, 0, "fog")
        refused(self, NoSuch, "name", "den", may_be, ALL_USES, 0, 0, "den")


class Windows(unittest.TestCase):
    PLAN = (0, 4, (), (), ())

    def test_by_hand(self):
        self.assertEqual(groups_of(ALL_USES, 0, self.PLAN, (9, 3)), 3)
        self.assertEqual(window(ALL_USES, 0, self.PLAN, (9, 3), 0, "fog"), ((0, 6), (1, 6)))
        self.assertEqual(window(ALL_USES, 0, self.PLAN, (9, 3), 1, "fog"), ((4, 10), (1, 6)))
        self.assertEqual(window(program=ALL_USES, nest=0, plan=self.PLAN, sizes=(9, 3), group=2, array="fog"), ((8, 11), (1, 6)))
        self.assertEqual(window(ALL_USES, 0, self.PLAN, (9, 3), 2, "elm"), ((2, 6),))
        self.assertEqual(window(PRODUCT, 0, (1, 8, (), (), ()), (2, 12, 3), 1, "b"), ((0, 3), (8, 12)))
        self.assertEqual(window(PRODUCT, 0, (1, 8, (), (), ()), (2, 12, 3), 1, "a"), ((0, 2), (0, 3)))

    def test_empty_ones(self):
        self.assertEqual(groups_of(ALL_USES, 0, self.PLAN, (9, 1)), 3)
        for group in range(3):
            self.assertEqual(window(ALL_USES, 0, self.PLAN, (9, 1), group, "fog"), ())
            self.assertEqual(window(ALL_USES, 0, self.PLAN, (9, 1), group, "elm"), ())
        self.assertEqual(near_words(ALL_USES, 0, (0, 4, ("elm", "fog"), (), ()), (9, 1)), 0)

    def test_without_groups(self):
        program = with_part(LINE, (2, 2, 1, 0, 3), ("add", at("near", ("i", 1)), at("raw", ("i", 0))))
        for sizes, groups in [((1,), 0), ((2,), 1), ((9,), 1), ((10,), 2)]:
            plan = (0, 8, ("near", "raw"), (), ())
            self.assertEqual(groups_of(program=program, nest=2, plan=plan, sizes=sizes), groups)
            self.assertEqual((moved(program, 2, plan, sizes), near_words(program, 2, plan, sizes), is_fit(program, 2, plan, sizes)), (0, 0, True))
        self.assertEqual(groups_of(program, 2, (1, 8, (), (), ()), (9,)), 0)
        refused(self, BadNumber, "about", 0, window, program, 2, (1, 8, (), (), ()), (9,), 0, "raw")

    def test_against_the_walk(self):
        seen = 0
        for program in SOME + [ALL_USES, LOCALS]:
            for nest, plan in some_plans(program):
                for sizes in some_sizes(program):
                    numbers = {spots[plan[0]] for spots in rounds_at(program, nest, sizes)}
                    groups = groups_of(program, nest, plan, sizes)
                    if numbers:
                        self.assertEqual(groups, max(numbers) // plan[1] + 1)
                    for array in nest_arrays(program, nest):
                        if "near" in slow_may_be(program, nest, plan[0], array):
                            boxes = boxes_of(program, nest, plan, sizes, array)
                            with Kept(self, program, plan, sizes):
                                told = [window(program, nest, plan, sizes, group, array) for group in range(groups)]
                            self.assertEqual(told, boxes)
                            seen += len(told)
        self.assertGreater(seen, 300)

    def test_refused(self):
        plan = (0, 4, ("fog",), (), ())
        for group in ODD_NUMBERS + [3]:
            refused(self, BadNumber, "about", group, window, ALL_USES, 0, plan, (9, 3), group, None)
        for name in ODD_THINGS + ["aim", "bid", "cot", "den", "i", "m", ("fog",)]:
            refused(self, NoSuch, "name", name, window, ALL_USES, 0, plan, (9, 3), 2, name)
        refused(self, NoSuch, "name", "fog", window, ALL_USES, 1, (0, 1, (), (), ()), (9, 3), 0, "fog")


class Moved(unittest.TestCase):
    def test_by_hand(self):
        sizes = (9, 3)
        plain = {"aim": (18, 18), "bid": (36, 0), "cot": (36, 36), "elm": (36, 0), "fog": (36, 0)}
        self.assertEqual(moved_parts(ALL_USES, 0, (0, 4, (), (), ()), sizes), plain)
        self.assertEqual(moved(program=ALL_USES, nest=0, plan=(0, 4, (), (), ()), sizes=sizes), 216)
        plan = (0, 4, ("elm", "fog"), ("cot",), ("aim",))
        self.assertEqual(list(moved_parts(program=ALL_USES, nest=0, plan=plan, sizes=sizes).items()),
                         [("aim", (0, 0)), ("bid", (36, 0)), ("cot", (9, 9)), ("elm", (12, 0)), ("fog", (75, 0))])
        self.assertEqual(moved(ALL_USES, 0, plan, sizes), 141)
        self.assertEqual(near_words(program=ALL_USES, nest=0, plan=plan, sizes=sizes), 34)

    def test_held_cells_are_moved_also_where_there_are_no_rounds(self):
        plan = (0, 4, (), ("aim", "cot"), ())
        self.assertEqual(moved_parts(ALL_USES, 0, plan, (9, 1)), {"aim": (9, 9), "bid": (0, 0), "cot": (9, 9), "elm": (0, 0), "fog": (0, 0)})

    def test_against_the_walk(self):
        many = 0
        for program in SOME + [ALL_USES, LOCALS]:
            for nest, plan in some_plans(program, 1):
                for sizes in some_sizes(program):
                    with Kept(self, program, plan, sizes):
                        told = moved_parts(program, nest, plan, sizes)
                        self.assertEqual(moved(program, nest, plan, sizes), sum(map(sum, told.values())))
                    self.assertEqual(list(told.items()), sorted(slow_parts(program, nest, plan, sizes).items()))
                    many += 1
                    told.clear()
                    self.assertGreater(len(moved_parts(program, nest, plan, sizes)), 0)
        self.assertGreater(many, 300)

    def test_plain_plans_move_what_traffic_tells(self):
        for program in SOME:
            for sizes in some_sizes(program):
                told = traffic(program, sizes, given_for(program, sizes))
                for nest in range(len(program[2])):
                    for loop in free_loops(program, nest):
                        self.assertEqual(moved(program, nest, (loop, 5, (), (), ()), sizes), sum(told[nest]))

    def test_near_words_and_fit(self):
        for program in SOME + [ALL_USES]:
            for nest, plan in some_plans(program, 2):
                for sizes in some_sizes(program):
                    due = sum(max(map(words_of, boxes_of(program, nest, plan, sizes, array)), default=0) for array in plan[2])
                    with Kept(self, program, plan, sizes):
                        self.assertEqual(near_words(program, nest, plan, sizes), due)
                        self.assertIs(is_fit(program, nest, plan, sizes), due <= 64)

    def test_just_fit_and_one_beyond(self):
        program = (("m", "n"), (("a", "given", (by("m"), by("n"))), ("b", "told", (by("m"),)), ("one", "given", (fixed(2),))),
                   (((("i", by("m")), ("j", by("n"))), (
                       add("b", (("i", 0),), ("add", at("a", ("i", 0), ("j", 0)), at("one", ("", 1)))),)),))
        for sizes, lanes, near, words in [((8, 8), 8, ("a",), 64), ((8, 8), 8, ("a", "one"), 65), ((9, 8), 8, ("a",), 64), ((8, 9), 8, ("a",), 72),
                                          ((8, 9), 7, ("a",), 63), ((8, 9), 7, ("a", "one"), 64), ((1, 1), 8, ("a", "one"), 2)]:
            plan = (0, lanes, near, (), ())
            self.assertEqual(near_words(program, 0, plan, sizes), words)
            self.assertIs(is_fit(program=program, nest=0, plan=plan, sizes=sizes), words <= 64)


class PlainPlans(unittest.TestCase):
    def test_by_hand(self):
        self.assertEqual(plain_plans(program=PRODUCT), [(0, 1, (), (), ())])
        self.assertEqual(plain_plans(ROWS), [(0, 1, (), (), ())] * 3)
        self.assertEqual(plain_plans(with_part(CROSS, (2,), CROSS[2][1:])), [(1, 1, (), (), ()), (0, 1, (), (), ()), (0, 1, (), (), ())])
        refused(self, Unfit, "about", 0, plain_plans, CROSS)
        refused(self, Unfit, "about", 1, plain_plans, with_part(LINE, (2,), LINE[2][::-1]))

    def test_against_free_loops(self):
        seen = set()
        for program in SOME:
            free = [free_loops(program, nest) for nest in range(len(program[2]))]
            with Kept(self, program):
                if [] in free:
                    refused(self, Unfit, "about", free.index([]), plain_plans, program)
                else:
                    told = plain_plans(program)
                    self.assertEqual(told, [(loops[0], 1, (), (), ()) for loops in free])
                    for nest, plan in enumerate(told):
                        self.assertIsNone(need_plan(program, nest, plan))
            seen.add([] in free)
        self.assertEqual(len(seen), 2)


class Refused(unittest.TestCase):
    CALLS = [(need_plan, 1), (groups_of, 2), (window, 4), (moved, 2), (moved_parts, 2), (near_words, 2), (is_fit, 2), (may_be, 2)]

    def test_programs_and_nests(self):
        for call, many in self.CALLS:
            rest = (None,) * many
            for thing in ODD_THINGS + [deep_list(LINE)]:
                if not isinstance(thing, tuple) or len(thing) != 3:
                    refused(self, BadProgram, "place", None, call, thing, None, *rest)
                    refused(self, BadProgram, "place", None, plain_plans, thing)
            for number in ODD_NUMBERS + [3]:
                refused(self, BadNumber, "about", number, call, ROWS, number, *rest)

    def test_sizes(self):
        for call, many in self.CALLS[1:-1]:
            rest = (None,) * (many - 2)
            for sizes in ODD_THINGS + [(1, 1), [1, 1, 1]]:
                about = 0 if isinstance(sizes, tuple) and len(sizes) == 3 else None
                refused(self, BadSizes, "about", about, call, PRODUCT, 0, (0, 1, ("a",), (), ()), sizes, *rest)
            for place in range(3):
                for size in [0, 13, True, None, "1", Touchy()]:
                    refused(self, BadSizes, "about", place, call, PRODUCT, 0, (0, 1, (), (), ()), with_part((1, 12, 1), (place,), size), *rest)


if __name__ == "__main__":
    unittest.main()
