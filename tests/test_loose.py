"""[23], [24]: FREE loops, FREE PAPERS, and TIES."""

import itertools
import unittest

from lanewright.errors import BadNumber, BadPaper, BadProgram
from lanewright.loose import check_free, free_loops, free_paper, held_back, is_free, ties
from lanewright.meetings import meeting
from lanewright.programs import accesses_of
from tests.helper import (
    CROSS, DEEP, DENSE, LINE, MORE_PROGRAMS, ODD_NUMBERS, ODD_THINGS, PRODUCT, ROWS, TWICE, Kept, Touchy, all_sizes, at, by, chance_program,
    deep_list, fits, fixed, is_bound, is_ring, loops_at, put, refused, rounds_by_cell, slow_binds, slow_meeting, with_part,
)

SOME = MORE_PROGRAMS + [chance_program(seed) for seed in range(40)]
NEVER = with_part(LINE, (2,), (LINE[2][2],))


def loops_there(program):
    return [(nest, loop) for nest in range(len(program[2])) for loop in range(len(loops_at(program, (nest, 0))))]


def pairs_of(program, nest):
    many = len(accesses_of(program, nest))
    return [(i, j) for i in range(many) for j in range(i, many) if is_bound(program, (nest, i), (nest, j))]


def pattern_at(program, nest, loop, sign):
    return tuple(sign if k == loop else "*" for k in range(len(loops_at(program, (nest, 0)))))


def due_of(program, nest):
    return [(i, j, sign) for i, j in pairs_of(program, nest) for sign in "<>"]


def slow_held_back(program, nest, loop):
    for i, j, sign in due_of(program, nest):
        met = slow_meeting(program, (nest, i), (nest, j), pattern_at(program, nest, loop, sign))
        if met is not None:
            return (i, j, sign, met)
    return None


class Free(unittest.TestCase):
    def test_by_hand(self):
        self.assertEqual(free_loops(PRODUCT, 0), [0, 1])
        self.assertEqual([free_loops(LINE, nest) for nest in range(3)], [[], [], [0, 1]])
        self.assertEqual([free_loops(CROSS, nest) for nest in range(4)], [[], [1], [0], [0]])
        self.assertEqual([free_loops(ROWS, nest) for nest in range(3)], [[0], [0], [0]])
        self.assertEqual([free_loops(program, 0) for program in (DEEP, DENSE, TWICE)], [[0], [], [0]])
        self.assertIs(is_free(program=PRODUCT, nest=0, loop=1), True)
        self.assertIs(is_free(PRODUCT, 0, 2), False)
        self.assertIsNone(held_back(PRODUCT, 0, 0))
        self.assertEqual(held_back(program=PRODUCT, nest=0, loop=2), (2, 3, "<", ((12, 12, 12), (0, 0, 0), (0, 0, 1))))
        self.assertEqual(held_back(LINE, 0, 0), (4, 5, "<", ((12,), (0,), (1,))))
        self.assertEqual(held_back(LINE, 1, 0), (0, 2, ">", ((12,), (1,), (0,))))

    def test_one_access_holds_its_loop_back_by_itself(self):
        program = (("m",), (("a", "own", (by("m"),)),), (((("i", by("m")), ("j", by("m"))), (put("a", (("j", 0),), ("num", 1)),)),))
        self.assertEqual(held_back(program, 0, 0), (0, 0, "<", ((12,), (0, 0), (1, 0))))
        self.assertEqual(free_loops(program, 0), [1])

    def test_loads_alone_hold_nothing_back(self):
        program = (("m",), (("a", "own", (by("m"),)), ("b", "given", (fixed(1),))),
                   (((("i", by("m")),), (put("a", (("i", 0),), ("add", at("b", ("", 0)), at("b", ("", 0)))),)),))
        self.assertEqual(free_loops(program, 0), [0])
        self.assertEqual([row[:3] for row in free_paper(program, 0, 0)], [(2, 2, "<"), (2, 2, ">")])

    def test_loops_that_never_go_are_free(self):
        self.assertEqual(free_loops(NEVER, 0), [0, 1])
        self.assertEqual(ties(NEVER, 0), ())
        for loop in (0, 1):
            self.assertIsNone(check_free(NEVER, 0, loop, free_paper(NEVER, 0, loop)))

    def test_against_all_rounds(self):
        seen = {True: 0, False: 0}
        for program in SOME:
            for nest, loop in loops_there(program):
                due = slow_held_back(program, nest, loop)
                with Kept(self, program):
                    self.assertEqual(held_back(program, nest, loop), due)
                    self.assertIs(is_free(program, nest, loop), due is None)
                    free = free_loops(program, nest)
                self.assertEqual(loop in free, due is None)
                self.assertEqual(free, sorted(set(free)))
                free.append(99)
                self.assertNotIn(99, free_loops(program, nest))
                if due is not None:
                    i, j, sign, met = due
                    self.assertEqual(met, meeting(program, (nest, i), (nest, j), pattern_at(program, nest, loop, sign)))
                seen[due is None] += 1
        self.assertGreater(min(seen.values()), 30)

    def test_no_two_lanes_meet_by_any_sizes(self):
        for program in SOME[::3]:
            for nest in range(len(program[2])):
                free = free_loops(program, nest)
                for sizes in itertools.islice(all_sizes(program), 0, None, 7 if len(program[0]) == 1 else 200):
                    for i, j in pairs_of(program, nest):
                        there = rounds_by_cell(program, (nest, j), sizes)
                        for cell, xs in rounds_by_cell(program, (nest, i), sizes).items():
                            for x, y in itertools.product(xs, there.get(cell, ())):
                                self.assertTrue(all(x[loop] == y[loop] for loop in free))


class Papers(unittest.TestCase):
    def look(self, program, nest, loop):
        with Kept(self, program):
            paper = free_paper(program, nest, loop)
        if not is_free(program, nest, loop):
            self.assertIsNone(paper)
            return None
        self.assertIs(type(paper), tuple)
        self.assertEqual([row[:3] for row in paper], due_of(program, nest))
        for i, j, sign, ring in paper:
            self.assertIsNone(is_ring(slow_binds(program, (nest, i), (nest, j), pattern_at(program, nest, loop, sign)), ring))
        with Kept(self, program, paper):
            self.assertIsNone(check_free(program, nest, loop, paper))
        return paper

    def test_each_free_loop_has_one(self):
        for program in SOME:
            for nest, loop in loops_there(program):
                self.look(program, nest, loop)
        self.assertIsNone(check_free(program=PRODUCT, nest=0, loop=0, paper=free_paper(program=PRODUCT, nest=0, loop=0)))

    def test_any_ring_is_taken(self):
        paper = free_paper(TWICE, 0, 0)
        taken = 0
        for number, (i, j, sign, ring) in enumerate(paper):
            rows = slow_binds(TWICE, (0, i), (0, j), pattern_at(TWICE, 0, 0, sign))
            for other in itertools.chain(*[itertools.permutations(range(len(rows)), many) for many in (1, 2, 3)]):
                if is_ring(rows, other) is None:
                    self.assertIsNone(check_free(TWICE, 0, 0, with_part(paper, (number, 3), other)))
                    taken += other != ring
                else:
                    refused(self, BadPaper, "about", number, check_free, TWICE, 0, 0, with_part(paper, (number, 3), other))
        self.assertEqual((len(paper), taken), (4, 4))

    def test_spoilt_rows(self):
        for program, nest, loop in [(PRODUCT, 0, 1), (ROWS, 0, 0), (CROSS, 1, 1), (NEVER, 0, 1)]:
            paper = self.look(program, nest, loop)
            for number, (i, j, sign, ring) in enumerate(paper):
                other = "<" if sign == ">" else ">"
                for row in ODD_THINGS + [
                        (i, j, sign), (i, j, sign, ring, 0), [i, j, sign, ring], (i + 1, j, sign, ring), (i, j + 1, sign, ring),
                        (j, i, other, ring), (i, j, other, ring), (i, j, "=", ring), (i, j, "*", ring), (True, j, sign, ring),
                        (i, False, sign, ring), (str(i), j, sign, ring), (i, j, sign, list(ring)), (i, j, sign, ()), (i, j, sign, ring[1:]),
                        (i, j, sign, ring + (99,)), (i, j, sign, ring + ring), (i, j, sign, (0,)), (i, j, sign, None), (i, j, sign, Touchy()),
                        (Touchy(), j, sign, ring), (i, j, Touchy(), ring), (i, j, sign.encode(), ring)]:
                    refused(self, BadPaper, "about", number, check_free, program, nest, loop, with_part(paper, (number,), row))

    def test_the_first_spoilt_row_is_told(self):
        paper = free_paper(ROWS, 0, 0)
        for first, second in itertools.combinations(range(len(paper)), 2):
            refused(self, BadPaper, "about", first, check_free, ROWS, 0, 0, with_part(with_part(paper, (second,), None), (first,), ()))
            exchanged = with_part(with_part(paper, (first,), paper[second]), (second,), paper[first])
            refused(self, BadPaper, "about", first, check_free, ROWS, 0, 0, exchanged)

    def test_rows_too_many_and_too_few(self):
        paper = free_paper(PRODUCT, 0, 0)
        for thing in ODD_THINGS + [paper[:-1], paper[1:], paper + paper[-1:], paper + (None,), list(paper), deep_list(paper), paper * 2]:
            if not isinstance(thing, tuple) or len(thing) != len(paper):
                refused(self, BadPaper, "about", None, check_free, PRODUCT, 0, 0, thing)
        self.assertEqual(len(paper), 4)
        refused(self, BadPaper, "about", 0, check_free, PRODUCT, 0, 0, (Touchy(),) * 4)

    def test_a_loop_that_is_not_free_has_none(self):
        paper = free_paper(PRODUCT, 0, 0)
        self.assertIsNone(free_paper(PRODUCT, 0, 2))
        refused(self, BadPaper, "about", 0, check_free, PRODUCT, 0, 2, paper)
        refused(self, BadPaper, "about", None, check_free, PRODUCT, 0, 2, None)
        # Rings of one loop are none of another one: their numbers stand for other binds there.
        refused(self, BadPaper, "about", 0, check_free, PRODUCT, 0, 1, paper)


class Ties(unittest.TestCase):
    def test_by_hand(self):
        together = ("=", "=")
        self.assertEqual(ties(PRODUCT, 0), (
            (2, 3, (*together, "<")), (2, 3, (*together, "=")), (2, 3, (*together, ">")), (3, 3, (*together, "<")), (3, 3, (*together, ">"))))
        self.assertEqual(ties(program=LINE, nest=1), (
            (0, 2, (">",)), (0, 5, ("<",)), (0, 5, ("=",)), (4, 5, ("<",)), (4, 5, ("=",)), (4, 5, (">",)), (5, 5, ("<",)), (5, 5, (">",))))
        self.assertEqual(ties(CROSS, 3), ())

    def test_against_all_rounds(self):
        many = 0
        for program in SOME:
            for nest in range(len(program[2])):
                sizes = (12,) * len(program[0])
                due = []
                for i, j in pairs_of(program, nest):
                    there = rounds_by_cell(program, (nest, j), sizes)
                    seen = {self.pattern(x, y) for cell, xs in rounds_by_cell(program, (nest, i), sizes).items()
                            for x, y in itertools.product(xs, there.get(cell, ()))}
                    due += [(i, j, pattern) for pattern in sorted(seen) if i != j or set(pattern) != {"="}]
                with Kept(self, program):
                    told = ties(program, nest)
                self.assertEqual(told, tuple(due))
                self.assertEqual(list(told), sorted(set(told)))
                many += len(told)
        self.assertGreater(many, 300)

    def pattern(self, x, y):
        pattern = tuple("<" if a < b else ">" if a > b else "=" for a, b in zip(x, y))
        self.assertTrue(fits(pattern, x, y))
        return pattern


class Refused(unittest.TestCase):
    BY_LOOP = [(is_free, ()), (held_back, ()), (free_paper, ()), (check_free, (None,))]
    ALL = BY_LOOP + [(free_loops, None), (ties, None)]

    def test_programs(self):
        for call, rest in self.ALL:
            more = () if rest is None else (None, *rest)
            for thing in ODD_THINGS + [deep_list(LINE)]:
                if not isinstance(thing, tuple) or len(thing) != 3:
                    refused(self, BadProgram, "place", None, call, thing, None, *more)
            refused(self, BadProgram, "place", ("nest", 1, "step", 1), call, with_part(LINE, (2, 1, 1, 1), 1), None, *more)

    def test_nests(self):
        for call, rest in self.ALL:
            more = () if rest is None else (None, *rest)
            for number in ODD_NUMBERS + [3]:
                refused(self, BadNumber, "about", number, call, LINE, number, *more)

    def test_loops(self):
        for call, rest in self.BY_LOOP:
            for number in ODD_NUMBERS + [1]:
                refused(self, BadNumber, "about", number, call, LINE, 1, number, *rest)
            refused(self, BadNumber, "about", 3, call, PRODUCT, 0, 3, *rest)


if __name__ == "__main__":
    unittest.main()
