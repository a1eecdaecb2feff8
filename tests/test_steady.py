"""[61]: STEADY KERNELS, and the LIKE PAPERS that show them so."""

import itertools
import random
import unittest

from lanewright.compiled import kernels_of
from lanewright.errors import BadKernel, BadPaper, BadProgram
from lanewright.kernels import rows_by_path
from lanewright.lanes import Lanes
from lanewright.plans import plain_plans
from lanewright.steady import check_like, is_steady, like_paper
from tests.helper import (
    HEAD, ODD_THINGS, PRODUCT, ROWS, Kept, Touchy, by, chance_kernel, deep_list, fixed, kernel, refused, stand_for, with_part,
)

FENCE = ("fence",)
EVERY = tuple(range(32))
LANE, ONE = ("lane",), ("num", 1)


def reg(number):
    return ("reg", number)


def without(*numbers):
    return tuple(number for number in EVERY if number not in numbers)


def asked(row):
    """The operands by which a row is LIKE."""
    return {"set": row[2:3], "do": row[3:5], "loop": row[2:4], "if": row[1:2]}.get(row[0], ())


def sets(row):
    """All registers that a row or any within it sets."""
    own = {"set": row[1:2], "load": row[1:2], "do": row[2:3], "loop": row[1:2]}.get(row[0], ())
    inner = row[-1] if row[0] in ("loop", "if") else ()
    return set(own).union(*[sets(part) for part in inner])


def is_like(operands, have):
    return all(operand[0] in ("num", "group", "size") or (operand[0] == "reg" and operand[1] in have) for operand in operands)


def slow_behind(rows, paper, path):
    """LIKE behind a row, by the words of the document."""
    row, have = rows[path], set(paper[path])
    like = is_like(asked(row), have)
    if row[0] in ("store", "fence"):
        return have
    if row[0] == "load":
        return have - {row[1]}
    if row[0] in ("set", "do"):
        mine = row[1] if row[0] == "set" else row[2]
        return have | {mine} if like else have - {mine}
    if not like:
        return have - sets(row)
    if row[-1]:
        have = have & slow_behind(rows, paper, (*path, len(row[-1]) - 1))
    return have | {row[1]} if row[0] == "loop" else have


def unlike_around(rows, paper, path):
    return [path[:many] for many in range(1, len(path)) if not is_like(asked(rows[path[:many]]), paper[path[:many]])]


def slow_may(rows, paper, path):
    """What may be LIKE ahead of a row, by the words of the document."""
    above = path[:-1]
    if path[-1] > 0:
        may = slow_behind(rows, paper, (*above, path[-1] - 1))
    elif not above:
        may = set(EVERY)
    elif rows[above][0] == "if" and is_like(asked(rows[above]), paper[above]):
        may = set(paper[above])
    else:
        may = slow_behind(rows, paper, above)
    for around in unlike_around(rows, paper, path):
        may = may - sets(rows[around])
    return may


def slow_wrong(thing, paper):
    """The PATH of the first row by which a paper isn't RIGHT; None of a RIGHT one."""
    rows = rows_by_path(thing)
    for path in rows:
        if not set(paper[path]) <= slow_may(rows, paper, path) or (rows[path] == FENCE and unlike_around(rows, paper, path)):
            return path
    return None


def small_rows(chance, many, deep):
    """Rows by chance over two registers."""
    found = []
    for _ in range(many):
        word = chance.choice(["set", "set", "do", "load", "store", "if", "loop", "if", "loop", "fence"])
        mine, operand, other = chance.randrange(2), *[chance.choice([LANE, ONE, reg(0), reg(1), reg(0), reg(1), ("size", "m")])
                                                      for _ in range(2)]
        if word in ("if", "loop") and deep == 0:
            word = "set"
        if word in ("if", "loop"):
            inner = small_rows(chance, chance.randint(0, 2), deep - 1)
            found.append(("if", operand, inner) if word == "if" else ("loop", mine, operand, ONE, inner))
        else:
            found.append({"set": ("set", mine, operand), "do": ("do", "add", mine, operand, other), "load": ("load", mine, "desk", (ONE,)),
                          "store": ("store", "desk", (ONE,), operand), "fence": FENCE}[word])
    return tuple(found)


class LikePaper(unittest.TestCase):
    def right(self, thing, due=None):
        with Kept(self, thing):
            paper = like_paper(*HEAD, thing)
        self.assertIs(is_steady(*HEAD, thing), paper is not None)
        if paper is not None:
            self.assertIsNone(check_like(*HEAD, thing, paper))
            self.assertIsNone(slow_wrong(thing, dict(paper)))
            self.assertEqual([path for path, _ in paper], list(rows_by_path(thing)))
        if due is not None:
            self.assertEqual([like for _, like in paper], due)
        return paper

    def not_steady(self, *rows):
        self.assertIsNone(self.right(kernel(*rows)))

    def test_without_rows(self):
        self.assertEqual(self.right(kernel()), ())

    def test_rows_one_behind_the_other(self):
        self.right(kernel(("set", 3, LANE)), [EVERY])
        self.right(kernel(("set", 3, LANE), ("set", 4, reg(3)), ("set", 3, ("group",)), FENCE, ("set", 4, ("size", "n")), FENCE),
                   [EVERY, without(3), without(3, 4), without(4), without(4), EVERY])
        self.right(kernel(("do", "less", 31, LANE, ONE), ("do", "add", 31, reg(0), ONE), ("load", 5, "gift", (ONE,)),
                          ("do", "mul", 0, reg(5), reg(5)), ("store", "gift", (LANE,), LANE), FENCE),
                   [EVERY, without(31), EVERY, without(5), without(0, 5), without(0, 5)])
        self.right(kernel(("do", "add", 0, reg(0), LANE), FENCE), [EVERY, without(0)])

    def test_an_if(self):
        inner = (("set", 1, LANE), ("set", 2, ONE))
        # LIKE: what is so ahead of it and behind its last row.
        self.right(kernel(("if", ("size", "m"), inner), FENCE), [EVERY, EVERY, without(1), without(1)])
        self.right(kernel(("set", 2, LANE), ("if", reg(9), inner), FENCE), [EVERY, without(2), without(2), without(1, 2), without(1, 2)])
        self.right(kernel(("if", ONE, ()), FENCE), [EVERY, EVERY])
        # Not LIKE: nothing that is set in it, in whatever depth.
        self.right(kernel(("if", LANE, inner), FENCE), [EVERY, without(1, 2), without(1, 2), without(1, 2)])
        self.right(kernel(("if", LANE, ()), FENCE), [EVERY, EVERY])
        deep = ("if", ONE, (("loop", 7, ONE, ONE, (("load", 6, "gift", (ONE,)),)),))
        self.right(kernel(("if", LANE, (("set", 5, ONE), deep)), FENCE), [EVERY] + [without(5, 6, 7)] * 5)

    def test_a_loop(self):
        # What is set behind, from a lane, isn't LIKE when the loop goes on.
        self.right(kernel(("loop", 0, ONE, ("size", "m"), (("set", 1, reg(2)), ("set", 2, LANE))), FENCE),
                   [EVERY, without(1, 2), without(1, 2), without(1, 2)])
        self.right(kernel(("loop", 0, ONE, ONE, (("set", 0, LANE), FENCE)), FENCE), [EVERY, EVERY, without(0), EVERY])
        self.right(kernel(("loop", 0, ONE, ONE, ()), FENCE), [EVERY, EVERY])
        self.right(kernel(("set", 0, LANE), ("loop", 0, ONE, ONE, ()), FENCE), [EVERY, without(0), EVERY])
        self.right(kernel(("loop", 3, LANE, ONE, (("set", 4, ONE),)), FENCE), [EVERY, without(3, 4), without(3, 4)])
        self.right(kernel(("loop", 3, ONE, LANE, ()), FENCE), [EVERY, without(3)])

    def test_a_chain_through_loops(self):
        """By each time that the loop goes on one register more isn't LIKE."""
        rows = tuple(("set", number, reg(number + 1)) for number in range(31))
        paper = self.right(kernel(("set", 31, LANE), ("loop", 31, ONE, ONE, (*rows[::-1], FENCE)), FENCE))
        self.assertEqual(paper[-1][1], EVERY)
        paper = self.right(kernel(("loop", 31, ONE, ONE, (*rows[:30], ("set", 30, LANE), FENCE)), FENCE))
        self.assertEqual(paper[0][1], EVERY)
        self.assertEqual([like for _, like in paper[1:]], [(31,)] * 33)

    def test_fences(self):
        inner = (("set", 0, ONE), FENCE)
        for row in [("if", ONE, inner), ("loop", 0, ONE, ("size", "n"), inner), ("if", ("group",), (("loop", 3, ("group",), ONE, inner),)),
                    ("loop", 9, ONE, ONE, (("if", reg(9), inner),)), ("if", LANE, (("set", 0, ONE),)), ("loop", 3, LANE, LANE, ())]:
            self.assertIsNotNone(self.right(kernel(("set", 0, ("group",)), row, FENCE)))
        for row in [("if", LANE, inner), ("loop", 0, LANE, ONE, inner), ("loop", 0, ONE, LANE, inner), ("if", reg(0), (FENCE,)),
                    ("if", LANE, (("if", ONE, inner),)), ("loop", 3, ONE, ONE, (("if", LANE, (("loop", 4, ONE, ONE, (FENCE,)),)),)),
                    ("loop", 3, ONE, reg(0), (("if", ONE, (("if", ONE, (("if", ONE, (FENCE,)),)),)),)),
                    ("loop", 3, ONE, ONE, (("if", reg(3), (FENCE,)), ("if", reg(4), (FENCE,)), ("set", 4, LANE)))]:
            self.not_steady(("set", 0, LANE), row)
        # The loop's own register, set within it, is LIKE again at its head, but not behind what sets it.
        self.assertIsNotNone(self.right(kernel(("loop", 3, ONE, ONE, (("if", reg(3), (FENCE,)), ("set", 3, LANE))))))
        self.not_steady(("loop", 3, ONE, ONE, (("set", 3, LANE), ("if", reg(3), (FENCE,)))))
        self.not_steady(("load", 5, "mine", (ONE,)), ("if", reg(5), (FENCE,)))

    def test_sizes_of_any_name(self):
        sizes = ("group", "lane", "reg")
        for name in sizes:
            paper = like_paper(sizes, (("a", "own", (fixed(1),)),), (2, fixed(3), (), (("set", 5, ("size", name)), ("if", ("size", name), (FENCE,)))))
            self.assertEqual([like for _, like in paper], [EVERY] * 3)

    def test_in_whatever_depth_nothing_set_is_like(self):
        rows = (("if", LANE, (("if", ONE, (("set", 1, ONE), ("set", 2, reg(1)))), ("if", reg(1), (("store", "mine", (ONE,), ONE),)))), FENCE)
        self.right(kernel(*rows), [EVERY] + [without(1, 2)] * 6)
        rows = (("if", LANE, (("loop", 4, LANE, ONE, (("set", 5, ONE),)), ("set", 6, ONE))), FENCE)
        self.right(kernel(*rows), [EVERY] + [without(4, 5, 6)] * 4)

    def test_as_many_registers_as_can_be(self):
        """Of all papers over two registers that are RIGHT none has one that the paper told hasn't."""
        chance = random.Random(61)
        seen = {True: 0, False: 0}
        some = [(), (0,), (1,), (0, 1)]
        for _ in range(500):
            more = (("if", reg(chance.randrange(2)), (FENCE,)),) * chance.randrange(2)
            thing = kernel(*small_rows(chance, chance.randint(1, 3), 2), *more)
            rows = rows_by_path(thing)
            if len(rows) > 5:
                continue
            told = self.right(thing)
            found = {path: set() for path in rows}
            right = False
            for choice in itertools.product(some, repeat=len(rows)):
                paper = dict(zip(rows, choice))
                if slow_wrong(thing, paper) is None:
                    right = True
                    for path in rows:
                        found[path].update(paper[path])
            seen[right] += 1
            self.assertIs(told is not None, right)
            if right:
                self.assertEqual([tuple(number for number in like if number < 2) for _, like in told],
                                 [tuple(sorted(found[path])) for path in rows])
        self.assertGreater(min(seen.values()), 25)

    def test_by_chance(self):
        chance = random.Random(9)
        seen = {True: 0, False: 0}
        for seed in range(1500):
            thing = chance_kernel(seed) if seed % 3 else kernel(*small_rows(chance, chance.randint(2, 7), 4))
            paper = self.right(thing)
            seen[paper is not None] += 1
            # Whatever is taken away that can't be, in whatever order: what is left is the greatest of all.
            rows = rows_by_path(thing)
            left = {path: set(EVERY) for path in rows}
            while any(not left[path] <= slow_may(rows, left, path) for path in rows):
                for path in chance.sample(sorted(rows), len(rows)):
                    left[path] &= slow_may(rows, left, path)
            if paper is None:
                self.assertEqual(rows[slow_wrong(thing, left)], FENCE)
            else:
                self.assertEqual(paper, tuple((path, tuple(sorted(left[path]))) for path in rows))
        self.assertGreater(min(seen.values()), 300)

    def test_no_lane_stands_for_good(self):
        chance = random.Random(3)
        seen = 0
        for seed in range(1200):
            thing, at = chance_kernel(seed), (chance.randint(1, 3), chance.randint(1, 3))
            if not is_steady(*HEAD, thing):
                continue
            seen += 1
            lanes = Lanes(*HEAD, thing, at, stand_for(at, seed))
            there = lanes.lanes_there()
            lanes.run(tuple(chance.choice(there) for _ in range(30)) if there else ())
            self.assertNotEqual(lanes.end()[0], "stuck")
        self.assertGreater(seen, 500)

    def test_kernels_by_plans(self):
        for program in [PRODUCT, ROWS]:
            for thing in kernels_of(program, plain_plans(program)):
                self.assertIs(is_steady(program[0], program[1], thing), True)
                self.assertIsNone(check_like(*program[:2], thing, like_paper(*program[:2], thing)))


ROWS_HERE = (("set", 0, LANE), ("loop", 1, ONE, ("size", "m"), (("if", reg(1), (FENCE, ("set", 2, reg(0)))), ("do", "add", 3, reg(3), ONE))),
             ("if", reg(0), (("set", 4, ONE),)), FENCE)
THING = kernel(*ROWS_HERE)


class CheckLike(unittest.TestCase):
    def bad(self, about, paper, thing=THING):
        refused(self, BadPaper, "about", about, check_like, *HEAD, thing, paper)

    def test_anything_as_paper(self):
        for paper in ODD_THINGS:
            self.bad(None, paper)
        good = like_paper(*HEAD, THING)
        self.assertIsNone(check_like(sizes=HEAD[0], arrays=HEAD[1], kernel=THING, paper=good))
        for paper in [list(good), deep_list(good), good[:-1], good[1:], good + good[-1:], good + (((4,), ()),), good[::-1], dict(good), good[0]]:
            self.bad(None, paper)
        for at in range(len(good)):
            for part in ODD_THINGS:
                self.bad(None, with_part(good, (at,), part))
                self.bad(None, with_part(good, (at, 0), part))
                if not isinstance(part, tuple) or len(part) > 0:
                    self.bad(None, with_part(good, (at, 1), part))
                self.bad(None, with_part(good, (at, 1), (part,)))
                self.bad(None, with_part(good, (at, 0, 0), part))
        self.assertIsNone(check_like(*HEAD, kernel(), ()))
        for paper in [((), ()), (((0,), ()),), [], None]:
            self.bad(None, paper, kernel())

    def test_registers_rise(self):
        for like in [(32,), (-1,), (0, 0), (1, 0), (True,), (0, True), (False, 1), (5, 4, 6), EVERY + (31,), EVERY + (32,), [0], "01", 3]:
            self.bad(None, (((0,), like),), kernel(FENCE))
        for like in [(), (0,), (31,), (0, 31), EVERY, (3, 4, 5)]:
            self.assertIsNone(check_like(*HEAD, kernel(FENCE), (((0,), like),)))

    def test_paths(self):
        thing = kernel(("if", ONE, (FENCE,)), FENCE)
        good = (((0,), ()), ((0, 0), ()), ((1,), ()))
        self.assertIsNone(check_like(*HEAD, thing, good))
        for paper in [(good[0], good[2], good[1]), (good[0], good[0], good[2]), good[:2], ((((0,), ()),) * 3), (good[0], ((0, 1), ()), good[2]),
                      (((False,), ()), *good[1:]), (([0], ()), *good[1:]), ((0, ()), *good[1:]), (good[0] + ((),), *good[1:])]:
            self.bad(None, paper, thing)

    def test_nothing_at_all_is_right_where_no_fence_hangs_on_it(self):
        none = tuple((path, ()) for path in rows_by_path(THING))
        self.bad((1, 0, 0), none)
        self.bad((1,), tuple((path, (1,) if path == (1,) else ()) for path in rows_by_path(THING)))
        self.assertIsNone(check_like(*HEAD, THING, tuple((path, (1,) if path == (1, 0) else ()) for path in rows_by_path(THING))))
        self.bad((2,), tuple((path, (0,) if path == (2,) else (1,) if path == (1, 0) else ()) for path in rows_by_path(THING)))

    def test_each_place(self):
        thing = kernel(("set", 0, LANE), ("store", "mine", (ONE,), ONE), ("load", 1, "mine", (ONE,)), ("do", "add", 2, reg(1), ONE),
                       ("if", LANE, (("set", 3, ONE), ("if", ONE, (("set", 4, ONE),)))), ("if", ONE, (("set", 5, LANE), ("set", 6, ONE))),
                       ("loop", 7, ONE, ONE, (("set", 7, LANE), FENCE)), ("loop", 8, ONE, LANE, (("set", 9, ONE),)), FENCE)
        good = like_paper(*HEAD, thing)
        paper = dict(good)
        missing = {path: tuple(number for number in EVERY if number not in like) for path, like in good}
        self.assertEqual(missing, {
            (0,): (), (1,): (0,), (2,): (0,), (3,): (0, 1), (4,): (0, 1, 2), (4, 0): (0, 1, 2, 3, 4), (4, 1): (0, 1, 2, 3, 4),
            (4, 1, 0): (0, 1, 2, 3, 4), (5,): (0, 1, 2, 3, 4), (5, 0): (0, 1, 2, 3, 4), (5, 1): (0, 1, 2, 3, 4, 5), (6,): (0, 1, 2, 3, 4, 5),
            (6, 0): (0, 1, 2, 3, 4, 5), (6, 1): (0, 1, 2, 3, 4, 5, 7), (7,): (0, 1, 2, 3, 4, 5), (7, 0): (0, 1, 2, 3, 4, 5, 8, 9),
            (8,): (0, 1, 2, 3, 4, 5, 8, 9)})
        for path in paper:
            for number in missing[path]:
                more = {**paper, path: tuple(sorted((*paper[path], number)))}
                self.bad(slow_wrong(thing, more), tuple(more.items()), thing)

    def test_bent_by_chance(self):
        chance = random.Random(2)
        seen = {True: 0, False: 0}
        for seed in range(1500):
            thing = chance_kernel(seed) if seed % 2 else kernel(*small_rows(chance, chance.randint(1, 6), 4))
            good = like_paper(*HEAD, thing) or tuple((path, EVERY) for path in rows_by_path(thing))
            for _ in range(4):
                paper = dict(good)
                for path in chance.sample(sorted(paper), min(len(paper), chance.randint(0, 2))):
                    few = chance.choice([(0, 1), (0, 1, 2, 3), EVERY])
                    taken = {number for number in few if chance.randrange(2)}
                    paper[path] = tuple(sorted(set(paper[path]) ^ taken if chance.randrange(2) else set(paper[path]) - taken))
                due = slow_wrong(thing, paper)
                seen[due is None] += 1
                if due is None:
                    self.assertIsNone(check_like(*HEAD, thing, tuple(paper.items())))
                else:
                    self.bad(due, tuple(paper.items()), thing)
        self.assertGreater(min(seen.values()), 700)


class Refused(unittest.TestCase):
    def test_in_order(self):
        for call, more in [(like_paper, ()), (is_steady, ()), (check_like, (Touchy(),))]:
            for thing in ODD_THINGS:
                if not isinstance(thing, tuple):
                    refused(self, BadProgram, "place", ("sizes",), call, thing, Touchy(), Touchy(), *more)
                    refused(self, BadProgram, "place", ("array", None), call, HEAD[0], thing, Touchy(), *more)
                refused(self, BadKernel, "place", None, call, *HEAD, thing, *more) if not is_four(thing) else None
            refused(self, BadProgram, "place", ("array", 1), call, HEAD[0], with_part(HEAD[1], (1, 1), "lent"), Touchy(), *more)
            refused(self, BadKernel, "place", "lanes", call, *HEAD, (Touchy(),) * 4, *more)
            refused(self, BadKernel, "place", (1, 0), call, *HEAD, kernel(FENCE, ("if", ONE, (("set", 32, ONE),))), *more)
            refused(self, BadKernel, "place", (0,), call, *HEAD, kernel(("set", 0, ("size", "k"))), *more)
            refused(self, BadKernel, "place", "count", call, *HEAD, kernel(count=by("m", 1, -2)), *more)
        self.assertIs(is_steady(sizes=HEAD[0], arrays=HEAD[1], kernel=kernel(FENCE, count=fixed(0))), True)
        self.assertEqual(like_paper(sizes=HEAD[0], arrays=HEAD[1], kernel=kernel(FENCE)), (((0,), EVERY),))


def is_four(thing):
    return isinstance(thing, tuple) and len(thing) == 4


if __name__ == "__main__":
    unittest.main()
