"""[44] to [46]: LEAST PLANS, SHELVES, TABLES, and the PAPERS that show that none moves less."""

import itertools
import unittest

from lanewright.errors import BadNumber, BadPaper, BadProgram, BadSizes
from lanewright.leastplan import all_plans, check_least, least_paper, least_plan, shelf, table
from lanewright.loose import free_loops
from lanewright.plans import is_fit, moved, near_words
from tests.helper import (
    CROSS, LINE, MORE_PROGRAMS, ODD_NUMBERS, ODD_THINGS, PRODUCT, ROWS, Kept, Touchy, add, at, by, chance_program, deep_list, fixed, put,
    refused, with_part,
)
from tests.test_plans import ALL_USES, LOCALS, boxes_of, nest_arrays, plans_of, slow_may_be, words_of

NEVER = with_part(LINE, (2, 2, 1, 0, 3), ("add", at("near", ("i", 1)), at("raw", ("i", 0))))
SOME = MORE_PROGRAMS + [ALL_USES, LOCALS, NEVER] + [chance_program(seed) for seed in range(40)]
# By sizes of 12 windows of 36, 24, 4 and 12 words: not all fit, three of them just do.
CHOICE = (
    ("n",),
    (("aa", "given", (by("n"), fixed(3))), ("bb", "given", (by("n"), fixed(2))), ("cc", "given", (fixed(9),)), ("dd", "given", (by("n"),)),
     ("out", "told", (by("n"),))),
    ((
        (("i", by("n")), ("j", by("n")), ("k", fixed(9))),
        (add("out", (("i", 0),), ("add", ("add", at("aa", ("j", 0), ("", 0)), at("aa", ("j", 0), ("", 2))),
                                  ("sub", at("bb", ("j", 0), ("", 0)), at("bb", ("j", 0), ("", 1))))),
         add("out", (("i", 0),), ("mul", at("cc", ("", 4)), ("mul", at("cc", ("", 1)), at("dd", ("j", 0)))))),
    ),),
)


def some_sizes(program):
    many = len(program[0])
    return [(1,) * many, (12,) * many, (5, 9, 2)[:many], (8, 2, 7)[:many]]


def nests_of(programs):
    return [(program, nest) for program in programs for nest in range(len(program[2]))]


def slow_shelf(program, nest, loop, lanes, sizes):
    plain = moved(program, nest, (loop, lanes, (), (), ()), sizes)
    rows = []
    for array in nest_arrays(program, nest):
        for use in slow_may_be(program, nest, loop, array):
            plan = (loop, lanes, *[(array,) if use == word else () for word in ("near", "held", "local")])
            weight = max(map(words_of, boxes_of(program, nest, plan, sizes, array)), default=0) if use == "near" else 0
            rows.append((array, use, weight, plain - moved(program, nest, plan, sizes)))
    return tuple(sorted(rows))


def slow_table(rows):
    """Number by number, by the words of the document."""
    told = [[0] * 65]
    for array in sorted({row[0] for row in rows}):
        told.append([])
        for c in range(65):
            best = told[-2][c]
            for name, _, weight, saving in rows:
                if name == array and weight <= c and told[-2][c - weight] + saving > best:
                    best = told[-2][c - weight] + saving
            told[-1].append(best)
    return tuple(map(tuple, told))


class LeastPlan(unittest.TestCase):
    def test_by_hand(self):
        self.assertEqual(least_plan(program=PRODUCT, nest=0, sizes=(1, 1, 1)), (0, 1, (), (), ()))
        self.assertEqual(least_plan(PRODUCT, 0, (2, 3, 4)), (0, 2, ("a", "b"), (), ()))
        self.assertIsNone(least_plan(LINE, 0, (3,)))
        self.assertEqual(least_plan(LINE, 2, (3,)), (0, 1, (), (), ()))
        self.assertEqual(least_plan(LOCALS, 1, (7,)), (0, 1, (), (), ("f",)))

    def test_against_all_plans(self):
        seen = set()
        for program, nest in nests_of(SOME + [CHOICE]):
            for sizes in some_sizes(program):
                best = None
                for loop, lanes in itertools.product(free_loops(program, nest), range(1, 9)):
                    for plan in all_plans(program, nest, loop, lanes, sizes):
                        row = (moved(program, nest, plan, sizes), lanes, plan)
                        best = row if best is None else min(best, row)
                with Kept(self, program, sizes):
                    told = least_plan(program, nest, sizes)
                self.assertEqual(told, None if best is None else best[2])
                if told:
                    seen.update([("near", told[2] != ()), ("held", told[3] != ()), ("local", told[4] != ()), ("lanes", told[1] > 1),
                                 ("loop", told[0] > 0)])
                else:
                    seen.add(None)
        self.assertEqual(len(seen), 11)

    def test_equal_ones_are_told_apart(self):
        # Where each moves as many words: the least lanes come first, then the first loop, then nothing near.
        program = (("m", "n"), (("a", "given", (by("m"), by("n"))), ("b", "told", (by("m"), by("n")))),
                   (((("i", by("m")), ("j", by("n"))), (put("b", (("i", 0), ("j", 0)), at("a", ("i", 0), ("j", 0))),)),))
        for sizes in [(1, 1), (12, 12), (3, 12)]:
            self.assertEqual(least_plan(program, 0, sizes), (0, 1, (), (), ()))
        # With one lane the second loop spares as much as the first one does with four.
        self.assertEqual([shelf(PRODUCT, 0, loop, 1, (4, 1, 2))[0] for loop in (0, 1)], [("a", "near", 2, 0), ("a", "near", 8, 0)])
        # To bring a near spares nothing there, but the tuple of both stands ahead of that of b alone.
        self.assertEqual(least_plan(PRODUCT, 0, (4, 1, 2)), (1, 1, ("a", "b"), (), ()))
        self.assertEqual(moved(PRODUCT, 0, (0, 4, ("b",), (), ()), (4, 1, 2)), moved(PRODUCT, 0, (1, 1, ("b",), (), ()), (4, 1, 2)))
        self.assertEqual(least_plan(LOCALS, 0, (3,))[3:], (("b",), ("a",)))

    def test_held_and_local_of_loops_that_never_go(self):
        self.assertEqual(least_plan(NEVER, 2, (1,)), (0, 1, (), (), ()))
        # To hold a cell moves it twice, also where there are no rounds to spare anything by it.
        self.assertEqual(least_plan(ALL_USES, 0, (9, 1)), (0, 1, (), (), ()))
        self.assertEqual([row[3] for row in shelf(ALL_USES, 0, 0, 4, (9, 1))], [-18, 0, -18, 0, 0])


class AllPlans(unittest.TestCase):
    def test_against_each_choice(self):
        many = 0
        for program, nest in nests_of(SOME + [CHOICE]):
            for sizes in some_sizes(program)[1:3]:
                for loop in free_loops(program, nest):
                    for lanes in (1, 3, 8):
                        due = sorted(plan for plan in plans_of(program, nest, loop, lanes) if is_fit(program, nest, plan, sizes))
                        with Kept(self, program, sizes):
                            told = all_plans(program, nest, loop, lanes, sizes)
                        self.assertEqual(told, due)
                        many += len(told)
                        told.clear()
                        self.assertEqual(all_plans(program, nest, loop, lanes, sizes), due)
        self.assertGreater(many, 500)
        self.assertEqual(all_plans(program=LOCALS, nest=1, loop=0, lanes=2, sizes=(3,))[0], (0, 2, (), (), ()))

    def test_what_just_fits(self):
        self.assertEqual([row[:3] for row in shelf(CHOICE, 0, 0, 8, (12,))], [
            ("aa", "near", 36), ("bb", "near", 24), ("cc", "near", 4), ("dd", "near", 12), ("out", "held", 0)])
        told = all_plans(CHOICE, 0, 0, 8, (12,))
        self.assertEqual((len(told), max(near_words(CHOICE, 0, plan, (12,)) for plan in told)), (28, 64))
        self.assertIn((0, 8, ("aa", "bb", "cc"), ("out",), ()), told)
        self.assertEqual(table(CHOICE, 0, 0, 8, (12,))[3][63:], (2544 + 2584, 2520 + 2544 + 2584))
        wide = with_part(CHOICE, (2, 0, 1, 1, 3, 2, 1, 2, 0, 1), 0)
        told = all_plans(wide, 0, 0, 8, (12,))
        self.assertEqual((len(told), max(near_words(wide, 0, plan, (12,)) for plan in told)), (26, 60))

class Shelves(unittest.TestCase):
    def test_by_hand(self):
        self.assertEqual(shelf(program=ALL_USES, nest=0, loop=0, lanes=4, sizes=(9, 3)), (
            ("aim", "held", 0, 18), ("aim", "local", 0, 36), ("cot", "held", 0, 54), ("elm", "near", 4, 24), ("fog", "near", 30, -39)))
        self.assertEqual(shelf(NEVER, 2, 1, 5, (3,)), (("near", "near", 0, 0), ("raw", "near", 0, 0)))

    def test_against_what_is_moved(self):
        many = 0
        for program, nest in nests_of(SOME + [CHOICE]):
            for sizes in some_sizes(program):
                for loop in free_loops(program, nest):
                    for lanes in (1, 2, 7):
                        with Kept(self, program, sizes):
                            told = shelf(program, nest, loop, lanes, sizes)
                        self.assertEqual(told, slow_shelf(program, nest, loop, lanes, sizes))
                        self.assertIs(type(told), tuple)
                        many += len(told)
        self.assertGreater(many, 500)

    def test_one_array_may_have_uses_in_a_row(self):
        self.assertEqual([row[:2] for row in shelf(LOCALS, 1, 0, 1, (3,))],
                         [("c", "near"), ("e", "held"), ("f", "held"), ("f", "local")])


class Tables(unittest.TestCase):
    def test_by_hand(self):
        rows = table(program=ALL_USES, nest=0, loop=0, lanes=4, sizes=(9, 3))
        self.assertEqual([len(row) for row in rows], [65] * 5)
        self.assertEqual(rows, ((0,) * 65, (36,) * 65, (90,) * 65, (90,) * 4 + (114,) * 61, (90,) * 4 + (114,) * 61))

    def test_number_by_number(self):
        for program, nest in nests_of(SOME + [CHOICE]):
            for sizes in some_sizes(program):
                for loop in free_loops(program, nest):
                    for lanes in (1, 4, 8):
                        with Kept(self, program, sizes):
                            told = table(program, nest, loop, lanes, sizes)
                        self.assertEqual(told, slow_table(slow_shelf(program, nest, loop, lanes, sizes)))

    def test_the_last_number_is_the_most_that_can_be_saved(self):
        for program, nest in nests_of([PRODUCT, ROWS, ALL_USES, LOCALS, CHOICE]):
            for sizes in some_sizes(program):
                for loop, lanes in itertools.product(free_loops(program, nest), (1, 3, 8)):
                    plain = moved(program, nest, (loop, lanes, (), (), ()), sizes)
                    least = min(moved(program, nest, plan, sizes) for plan in all_plans(program, nest, loop, lanes, sizes))
                    self.assertEqual(table(program, nest, loop, lanes, sizes)[-1][-1], plain - least)


class Papers(unittest.TestCase):
    def test_good_ones(self):
        for program, nest in nests_of(SOME + [CHOICE]):
            for sizes in some_sizes(program):
                with Kept(self, program, sizes):
                    paper = least_paper(program, nest, sizes)
                if not free_loops(program, nest):
                    self.assertIsNone(paper)
                    continue
                plan, tables = paper
                self.assertEqual([row[:2] for row in tables], list(itertools.product(free_loops(program, nest), range(1, 9))))
                self.assertEqual([row[2] for row in tables], [table(program, nest, loop, lanes, sizes) for loop, lanes, _ in tables])
                words = moved(program, nest, least_plan(program, nest, sizes), sizes)
                self.assertEqual(moved(program, nest, plan, sizes), words)
                with Kept(self, program, sizes, paper):
                    self.assertEqual(check_least(program, nest, sizes, paper), words)
        self.assertEqual(check_least(program=PRODUCT, nest=0, sizes=(1, 1, 1), paper=least_paper(program=PRODUCT, nest=0, sizes=(1, 1, 1))), 4)

    def test_any_plan_that_moves_as_few(self):
        sizes = (3, 4)
        tables = least_paper(ROWS, 0, sizes)[1]
        least = moved(ROWS, 0, least_plan(ROWS, 0, sizes), sizes)
        seen = set()
        for lanes in range(1, 9):
            for plan in all_plans(ROWS, 0, 0, lanes, sizes):
                words = moved(ROWS, 0, plan, sizes)
                if words == least:
                    self.assertEqual(check_least(ROWS, 0, sizes, (plan, tables)), least)
                else:
                    refused(self, BadPaper, "about", "least", check_least, ROWS, 0, sizes, (plan, tables))
                seen.add(words == least)
        self.assertEqual(len(seen), 2)

    def test_where_the_least_one_takes_all_room(self):
        plan, tables = least_paper(CHOICE, 0, (12,))
        self.assertEqual((plan, near_words(CHOICE, 0, plan, (12,))), ((0, 6, ("aa", "bb", "cc"), ("out",), ()), 64))
        for worse in [(0, 6, ("bb", "cc"), ("out",), ()), (0, 8, ("aa", "bb"), ("out",), ()), (0, 8, ("aa", "bb", "cc"), (), ()),
                      (0, 5, ("aa", "bb", "cc"), ("out",), ())]:
            refused(self, BadPaper, "about", "least", check_least, CHOICE, 0, (12,), (worse, tables))

    def test_none_of_no_pair(self):
        plan, tables = least_paper(PRODUCT, 0, (3, 3, 3))
        for paper in ODD_THINGS + [
                (plan,), (plan, tables, 0), [plan, tables], (plan, list(tables)), (list(plan), tables), (None, tables), (plan, None), (plan, {}),
                (plan[:4], tables), ((2, 1, (), (), ()), tables), ((0, 9, (), (), ()), tables), ((0, 1, ("c",), (), ()), tables),
                (Touchy(), tables), (plan, Touchy()), (tables, plan), (with_part(plan, (0,), True), tables)]:
            refused(self, BadPaper, "about", None, check_least, PRODUCT, 0, (3, 3, 3), paper)

    def test_none_of_a_plan_that_is_not_fit(self):
        plan, tables = least_paper(PRODUCT, 0, (12, 12, 12))
        self.assertIs(is_fit(PRODUCT, 0, (0, 8, ("a",), (), ()), (12, 12, 12)), False)
        refused(self, BadPaper, "about", None, check_least, PRODUCT, 0, (12, 12, 12), ((0, 8, ("a",), (), ()), tables))
        self.assertEqual(check_least(PRODUCT, 0, (12, 12, 12), (plan, tables)), moved(PRODUCT, 0, plan, (12, 12, 12)))

    def test_tables_that_are_not_due(self):
        sizes = (3, 3, 3)
        plan, tables = least_paper(PRODUCT, 0, sizes)
        self.assertEqual(len(tables), 16)
        for number, (loop, lanes, rows) in enumerate(tables):
            about = ("table", loop, lanes)
            self.assertIs(type(rows), tuple)
            for row in ODD_THINGS + [
                    [loop, lanes, rows], (loop, lanes), (loop, lanes, rows, 0), (loop + 1, lanes, rows), (loop, lanes + 1, rows),
                    (loop, lanes, rows[1:]), (loop, lanes, rows + rows[:1]), (loop, lanes, list(rows)), (loop, lanes, None),
                    (loop, lanes, Touchy()), (loop, lanes, with_part(rows, (1,), rows[1][:-1])), (loop, lanes, with_part(rows, (1, 64), -1)),
                    (loop, lanes, with_part(rows, (0, 0), False)), (loop, lanes, with_part(rows, (2, 30), rows[2][30] + 1)),
                    (loop, lanes, with_part(rows, (0, 7), Touchy())), (str(loop), lanes, rows), (loop, True, rows), (bool(loop), lanes, rows)]:
                refused(self, BadPaper, "about", about, check_least, PRODUCT, 0, sizes, (plan, with_part(tables, (number,), row)))
            refused(self, BadPaper, "about", about, check_least, PRODUCT, 0, sizes, (plan, tables[:number]))
            refused(self, BadPaper, "about", about, check_least, PRODUCT, 0, sizes, (plan, tables[:number] + tables[number + 1:]))
        refused(self, BadPaper, "about", ("table", 0, 1), check_least, PRODUCT, 0, sizes, (plan, tuple(deep_list(tables))))

    def test_tables_behind_all(self):
        plan, tables = least_paper(PRODUCT, 0, (3, 3, 3))
        for more in [tables[-1:], (None,), (Touchy(), 1), tables]:
            refused(self, BadPaper, "about", ("table", None), check_least, PRODUCT, 0, (3, 3, 3), (plan, tables + more))
        worst = (0, 1, (), (), ())
        refused(self, BadPaper, "about", ("table", None), check_least, PRODUCT, 0, (3, 3, 3), (worst, tables + (None,)))
        refused(self, BadPaper, "about", ("table", 1, 8), check_least, PRODUCT, 0, (3, 3, 3), (worst, tables[:-1]))
        refused(self, BadPaper, "about", "least", check_least, PRODUCT, 0, (3, 3, 3), (worst, tables))

    def test_without_a_free_loop_there_is_none(self):
        self.assertIsNone(least_paper(LINE, 0, (3,)))
        for paper in [((0, 1, (), (), ()), ()), None, ()]:
            refused(self, BadPaper, "about", None, check_least, LINE, 0, (3,), paper)


class Refused(unittest.TestCase):
    BY_NEST = [(least_plan, ()), (least_paper, ()), (check_least, (None,))]
    BY_LOOP = [all_plans, shelf, table]

    def test_programs_and_nests(self):
        calls = [(call, (None, *rest)) for call, rest in self.BY_NEST] + [(call, (None, None, None)) for call in self.BY_LOOP]
        for call, rest in calls:
            for thing in ODD_THINGS + [deep_list(LINE)]:
                if not isinstance(thing, tuple) or len(thing) != 3:
                    refused(self, BadProgram, "place", None, call, thing, None, *rest)
            refused(self, BadProgram, "place", ("nest", 0, None), call, with_part(PRODUCT, (2, 0), 1), None, *rest)
            for number in ODD_NUMBERS + [1]:
                refused(self, BadNumber, "about", number, call, PRODUCT, number, *rest)

    def test_loops_and_lanes(self):
        for call in self.BY_LOOP:
            for loop in ODD_NUMBERS + [2, 3]:
                refused(self, BadNumber, "about", loop, call, PRODUCT, 0, loop, None, None)
            refused(self, BadNumber, "about", 0, call, CROSS, 0, 0, 0, None)
            for lanes in ODD_NUMBERS + [0, 9]:
                refused(self, BadNumber, "about", lanes, call, PRODUCT, 0, 0, lanes, None)

    def test_sizes(self):
        calls = [(call, (), rest) for call, rest in self.BY_NEST] + [(call, (1, 8), ()) for call in self.BY_LOOP]
        for call, ahead, rest in calls:
            for sizes in ODD_THINGS + [(1, 1), [1, 1, 1]]:
                about = 0 if isinstance(sizes, tuple) and len(sizes) == 3 else None
                refused(self, BadSizes, "about", about, call, PRODUCT, 0, *ahead, sizes, *rest)
            refused(self, BadSizes, "about", 2, call, PRODUCT, 0, *ahead, (1, 12, 13), *rest)
        refused(self, BadSizes, "about", None, least_plan, LINE, 0, None)
        refused(self, BadSizes, "about", 0, least_paper, LINE, 0, (0,))


if __name__ == "__main__":
    unittest.main()
