"""[20] to [22]: meetings, binds and rings."""

import itertools
import random
import unittest

from lanewright.errors import BadKind, BadNumber, BadPaper, BadProgram, BadSizes
from lanewright.meetings import (
    binds, binds_apart, check_ring, meeting, meeting_apart, meets_at, need_ring, ring, ring_of,
)
from lanewright.programs import accesses_of
from tests.helper import (
    CROSS, LINE, ODD_NUMBERS, ODD_THINGS, PRODUCT, PROGRAMS, SIGNS, Kept, Touchy, access_at, all_sizes, at, by, chance_program, deep_list,
    fits, is_ring, loops_at, put, refused, rounds_by_cell, sides_of, slow_binds, slow_meeting, with_part,
)

X0, X1, Y0, Y1 = ("x", 0), ("x", 1), ("y", 0), ("y", 1)


def some_pairs(program, most):
    """Pairs of sides of nests with LIKE LOOPS, by chance where there are many."""
    pairs = [(one, other) for one in sides_of(program) for other in sides_of(program) if loops_at(program, one) == loops_at(program, other)]
    random.Random(5).shuffle(pairs)
    return pairs[:most]


class Binds(unittest.TestCase):
    def test_by_hand(self):
        bounds = [(0, X0, 0), (X0, 0, 11), (0, Y0, 0), (Y0, 0, 11), (0, X1, 0), (X1, 0, 11), (0, Y1, 0), (Y1, 0, 11)]
        self.assertEqual(binds(CROSS, (0, 0), (0, 1), ("<", "*")), bounds + [
            (X0, Y0, 2), (Y0, X0, -2), (X1, Y1, -2), (Y1, X1, 2), (X0, Y0, -1)])
        self.assertEqual(binds(program=CROSS, one=(0, 1), other=(0, 0), pattern=(">", "=")), bounds + [
            (X0, Y0, -2), (Y0, X0, 2), (X1, Y1, 2), (Y1, X1, -2), (Y0, X0, -1), (X1, Y1, 0), (Y1, X1, 0)])
        # One INDEX by a number alone, and one by another loop than its fellow.
        self.assertEqual(access_at(CROSS, (0, 3)), ("load", "g", (("", 4), ("q", 1))))
        self.assertEqual(access_at(CROSS, (0, 4)), ("store", "g", (("p", 0), ("p", 1))))
        self.assertEqual(binds(CROSS, (0, 3), (0, 4), ("*", "*"))[8:], [(0, Y0, -4), (Y0, 0, 4), (X1, Y0, 0), (Y0, X1, 0)])
        self.assertEqual(binds(CROSS, (0, 4), (0, 3), ("*", "<"))[8:], [(X0, 0, 4), (0, X0, -4), (X0, Y1, 0), (Y1, X0, 0), (X1, Y1, -1)])
        flag = (("", 0), ("", 2))
        self.assertEqual(access_at(LINE, (0, 4)), ("load", "flag", flag))
        self.assertEqual(binds(LINE, (0, 4), (0, 5), ("=",)), [
            (0, X0, 0), (X0, 0, 11), (0, Y0, 0), (Y0, 0, 11), (0, 0, 0), (0, 0, 0), (0, 0, 0), (0, 0, 0), (X0, Y0, 0), (Y0, X0, 0)])

    def test_of_a_loop_that_never_goes(self):
        self.assertEqual(binds(LINE, (2, 0), (2, 0), ("<", "*"))[:8], [
            (0, X0, 0), (X0, 0, 10), (0, Y0, 0), (Y0, 0, 10), (0, X1, 0), (X1, 0, -1), (0, Y1, 0), (Y1, 0, -1)])

    def test_of_unlike_arrays(self):
        self.assertEqual(binds(PRODUCT, (0, 0), (0, 1), ("=", "=", "=")), [])
        self.assertEqual(binds_apart(PRODUCT, (0, 0), (0, 1)), [])

    def test_in_their_order(self):
        for program in PROGRAMS + [chance_program(seed) for seed in range(40)]:
            for one, other in some_pairs(program, 20):
                alike = access_at(program, one)[1] == access_at(program, other)[1]
                for pattern in itertools.islice(itertools.product(SIGNS, repeat=len(loops_at(program, one))), 0, None, 3):
                    with Kept(self, program, one, other, pattern):
                        told = binds(program, one, other, pattern)
                    self.assertEqual(told, slow_binds(program, one, other, pattern) if alike else [])
                    told.clear()
                    self.assertEqual(len(binds(program, one, other, pattern)) > 0, alike)

    def test_apart(self):
        for program in PROGRAMS + [chance_program(seed) for seed in range(40)]:
            for one, other in itertools.islice(itertools.product(sides_of(program), repeat=2), 0, None, 3):
                alike = access_at(program, one)[1] == access_at(program, other)[1]
                self.assertEqual(binds_apart(program, one, other), slow_binds(program, one, other, ()) if alike else [])
        self.assertEqual(binds_apart(program=CROSS, one=(3, 1), other=(0, 1)), [
            (0, X0, 0), (X0, 0, 11), (0, Y0, 0), (Y0, 0, 11), (0, Y1, 0), (Y1, 0, 11),
            (X0, Y0, 1), (Y0, X0, -1), (0, Y1, -7), (Y1, 0, 7)])
        self.assertEqual(binds_apart(CROSS, (0, 1), (3, 1))[:6], [
            (0, X0, 0), (X0, 0, 11), (0, Y0, 0), (Y0, 0, 11), (0, X1, 0), (X1, 0, 11)])


class Meetings(unittest.TestCase):
    def test_by_hand(self):
        sizes = (12, 12)
        self.assertIsNone(meeting(CROSS, (0, 0), (0, 1), ("<", "*")))
        self.assertEqual(meeting(CROSS, (0, 0), (0, 1), (">", "<")), (sizes, (2, 0), (0, 2)))
        self.assertEqual(meeting(CROSS, (0, 0), (0, 1), (">", "*")), (sizes, (2, 0), (0, 2)))
        self.assertEqual(meeting(program=CROSS, one=(0, 1), other=(0, 0), pattern=("<", ">")), (sizes, (0, 2), (2, 0)))
        self.assertEqual(meeting(PRODUCT, (0, 3), (0, 3), ("=", "=", "<")), ((12, 12, 12), (0, 0, 0), (0, 0, 1)))
        self.assertEqual(meeting(PRODUCT, (0, 3), (0, 2), ("=", "=", ">")), ((12, 12, 12), (0, 0, 1), (0, 0, 0)))
        self.assertIsNone(meeting(PRODUCT, (0, 3), (0, 2), ("<", "*", "*")))
        self.assertIsNone(meeting(PRODUCT, (0, 0), (0, 1), ("*", "*", "*")))
        self.assertIsNone(meeting(LINE, (2, 0), (2, 0), ("*", "*")))
        self.assertEqual(meeting(LINE, (1, 0), (1, 2), ("*",)), ((12,), (1,), (0,)))

    def test_a_meeting_or_a_ring_never_both(self):
        seen = {True: 0, False: 0}
        for program in PROGRAMS + [chance_program(seed) for seed in range(40)]:
            for one, other in some_pairs(program, 8):
                for pattern in itertools.islice(itertools.product(SIGNS, repeat=len(loops_at(program, one))), 0, None, 5):
                    due = slow_meeting(program, one, other, pattern)
                    with Kept(self, program, one, other, pattern):
                        self.assertEqual(meeting(program, one, other, pattern), due)
                        paper = ring(program, one, other, pattern)
                    if due is None:
                        self.assertIs(type(paper), tuple)
                        self.assertIsNone(check_ring(program, one, other, pattern, paper))
                        self.assertIsNone(is_ring(binds(program, one, other, pattern), paper))
                    else:
                        self.assertIsNone(paper)
                    seen[due is None] += 1
        self.assertGreater(min(seen.values()), 100)

    def test_apart(self):
        for program in [LINE, CROSS] + [chance_program(seed) for seed in range(25)]:
            for one, other in itertools.islice(itertools.product(sides_of(program), repeat=2), 0, None, 4):
                due = slow_meeting(program, one, other, ())
                with Kept(self, program, one, other):
                    self.assertEqual(meeting_apart(program, one, other), due)
        self.assertEqual(meeting_apart(program=CROSS, one=(3, 1), other=(0, 1)), ((12, 12), (1,), (0, 7)))
        self.assertEqual(meeting_apart(CROSS, (0, 1), (3, 1)), ((12, 12), (0, 7), (1,)))
        self.assertEqual(meeting_apart(CROSS, (1, 0), (2, 0)), ((12, 12), (0, 0), (8, 2)))
        self.assertIsNone(meeting_apart(CROSS, (3, 0), (0, 0)))

    def test_unlike_arrays(self):
        self.assertEqual(ring(PRODUCT, (0, 0), (0, 1), ("*", "*", "*")), ())
        self.assertIsNone(check_ring(PRODUCT, (0, 0), (0, 1), ("*", "*", "*"), ()))
        self.assertIsNone(meeting_apart(PRODUCT, (0, 0), (0, 1)))

    def test_where_they_meet_by_any_sizes_they_do_by_the_greatest(self):
        program = (("m",), (("a", "own", (by("m", 1, 2),)),), ((
            (("i", by("m", 1, -1)),), (put("a", (("i", 2),), at("a", ("", 1))), put("a", (("", 0),), at("a", ("i", 0)))),),))
        for one, other in itertools.product(sides_of(program), repeat=2):
            for pattern in itertools.product(SIGNS, repeat=1):
                by_any = any(
                    meets_at(program, one, other, (size,), (x,), (y,)) and fits(pattern, (x,), (y,))
                    for size in range(1, 13) for x in range(size - 1) for y in range(size - 1))
                self.assertIs(meeting(program, one, other, pattern) is not None, by_any)


class MeetsAt(unittest.TestCase):
    def test_all_sizes_and_rounds(self):
        for program in [LINE] + [chance_program(seed) for seed in range(12)]:
            for one, other in some_pairs(program, 4):
                for sizes in itertools.islice(all_sizes(program), 0, None, 5):
                    self.look(program, one, other, sizes)

    def look(self, program, one, other, sizes):
        alike = access_at(program, one)[1] == access_at(program, other)[1]
        xs, ys = rounds_by_cell(program, one, sizes), rounds_by_cell(program, other, sizes)
        due = {(x, y) for cell in xs for x in xs[cell] for y in ys.get(cell, ()) if alike}
        tries = sorted(due)[:3] + sorted(due)[-3:]
        many = len(loops_at(program, one))
        spots = [-1, 0, 1, sizes[0] - 1, sizes[0], 12, 2001, 10 ** 3999]
        chance = random.Random(str(sizes))
        tries += [tuple(tuple(chance.choice(spots) for _ in range(many)) for _ in "xy") for _ in range(6)]
        for x, y in tries:
            self.assertIs(meets_at(program, one, other, sizes, x, y), (x, y) in due)

    def test_by_hand(self):
        self.assertIs(meets_at(program=CROSS, one=(0, 0), other=(0, 1), sizes=(3, 3), x=(2, 0), y=(0, 2)), True)
        self.assertIs(meets_at(CROSS, (0, 0), (0, 1), (2, 3), (2, 0), (0, 2)), False)
        self.assertIs(meets_at(CROSS, (0, 0), (0, 1), (3, 2), (2, 0), (0, 2)), False)
        self.assertIs(meets_at(CROSS, (0, 0), (0, 1), (3, 3), (2, -1), (0, 1)), False)
        self.assertIs(meets_at(CROSS, (0, 0), (0, 1), (3, 3), (0, 2), (2, 0)), False)
        self.assertIs(meets_at(PRODUCT, (0, 0), (0, 1), (1, 1, 1), (0, 0, 0), (0, 0, 0)), False)
        self.assertIs(meets_at(LINE, (2, 0), (2, 0), (5,), (0, 0), (0, 0)), False)
        self.assertIs(meets_at(CROSS, (0, 5), (1, 1), (12, 12), (0, 11), (0, 6)), False)
        self.assertIs(meets_at(CROSS, (0, 5), (0, 5), (12, 12), (0, 11), (0, 6)), True)

    def test_refused(self):
        for sizes in ODD_THINGS + [(1,), [1, 1]]:
            about = 0 if isinstance(sizes, tuple) and len(sizes) == 2 else None
            refused(self, BadSizes, "about", about, meets_at, CROSS, (0, 0), (0, 1), sizes, None, None)
        refused(self, BadSizes, "about", 1, meets_at, CROSS, (0, 0), (0, 1), (12, 13), None, None)
        for spots in ODD_THINGS + [(0,), (0, 0, 0), [0, 0], (0, True), ("0", 0), (None, 0)]:
            refused(self, BadKind, "wanted", "round", meets_at, CROSS, (0, 0), (0, 1), (3, 3), spots, (0, 0))
            refused(self, BadKind, "wanted", "round", meets_at, CROSS, (0, 0), (0, 1), (3, 3), (0, 0), spots)
            refused(self, BadKind, "wanted", "round", meets_at, CROSS, (0, 0), (0, 1), (3, 3), (-5, 99), spots)
        refused(self, BadKind, "wanted", "loops", meets_at, CROSS, (0, 0), (2, 0), None, None, None)


class Refused(unittest.TestCase):
    WITH_LIKE_LOOPS = [(binds, 1), (meeting, 1), (ring, 1), (check_ring, 2), (meets_at, 3)]
    APART = [(binds_apart, 0), (meeting_apart, 0)]

    def test_programs(self):
        for call, many in self.WITH_LIKE_LOOPS + self.APART:
            for thing in ODD_THINGS + [deep_list(CROSS)]:
                if not isinstance(thing, tuple) or len(thing) != 3:
                    refused(self, BadProgram, "place", None, call, thing, None, None, *[None] * many)
            refused(self, BadProgram, "place", ("nest", 3, "step", 0), call, with_part(CROSS, (2, 3, 1, 0), 1), None, None, *[None] * many)

    def test_pairs_and_numbers_of_nests(self):
        for call, many in self.WITH_LIKE_LOOPS + self.APART:
            rest = [None] * many
            for thing in ODD_THINGS + [(0,), (0, 0, 0), [0, 0], "ab"]:
                if isinstance(thing, tuple) and len(thing) == 2:
                    if type(thing[0]) is int:
                        continue
                    refused(self, BadNumber, "about", thing[0], call, CROSS, thing, None, *rest)
                    refused(self, BadNumber, "about", thing[0], call, CROSS, (2, None), thing, *rest)
                else:
                    refused(self, BadNumber, "about", thing, call, CROSS, thing, None, *rest)
                    refused(self, BadNumber, "about", thing, call, CROSS, (2, None), thing, *rest)
            for number in ODD_NUMBERS + [4]:
                refused(self, BadNumber, "about", number, call, CROSS, (number, 0), None, *rest)
                refused(self, BadNumber, "about", number, call, CROSS, (2, None), (number, 0), *rest)

    def test_loops_that_are_not_like(self):
        for call, many in self.WITH_LIKE_LOOPS:
            rest = [None] * many
            for one, other in [((0, None), (2, None)), ((2, 0), (1, 0)), ((3, 99), (0, 99))]:
                refused(self, BadKind, "wanted", "loops", call, CROSS, one, other, *rest)
        for call, _ in self.APART:
            call(CROSS, (0, 0), (2, 0))

    def test_numbers_of_accesses(self):
        for call, many in self.WITH_LIKE_LOOPS + self.APART:
            rest = [None] * many
            for number in ODD_NUMBERS + [2]:
                refused(self, BadNumber, "about", number, call, CROSS, (1, number), (1, None), *rest)
                refused(self, BadNumber, "about", number, call, CROSS, (0, 8), (1, number), *rest)
        self.assertEqual(len(accesses_of(CROSS, 0)), 9)
        refused(self, BadNumber, "about", 9, binds, CROSS, (0, 9), (1, 0), None)

    def test_patterns(self):
        for call, many in self.WITH_LIKE_LOOPS[:4]:
            for pattern in ODD_THINGS + [("=",), ("=", "=", "="), ["=", "="], "==", ("=", ""), ("<=", "="), ("=", None), ("!", "*")]:
                refused(self, BadKind, "wanted", "pattern", call, CROSS, (0, 0), (0, 1), pattern, *[None] * (many - 1))
                refused(self, BadKind, "wanted", "pattern", call, CROSS, (0, 0), (0, 6), pattern, *[()] * (many - 1))


class Rings(unittest.TestCase):
    def chance_rows(self, chance, names, many):
        return [(chance.choice(names), chance.choice(names), chance.randint(-2, 3)) for _ in range(many)]

    def can_be_kept(self, rows):
        """Whether numbers keep all rows, by the shortest ways between all names."""
        names = []
        for u, v, _ in rows:
            names.extend(name for name in (u, v) if name not in names)
        far = {(u, v): 0 if u == v else None for u, v in itertools.product(range(len(names)), repeat=2)}
        for u, v, most in rows:
            key = names.index(u), names.index(v)
            far[key] = most if far[key] is None else min(far[key], most)
        for w, u, v in itertools.product(range(len(names)), repeat=3):
            if far[u, w] is not None and far[w, v] is not None:
                there = far[u, w] + far[w, v]
                far[u, v] = there if far[u, v] is None else min(far[u, v], there)
        return all(far[k, k] >= 0 for k in range(len(names)))

    def test_either_a_ring_or_numbers(self):
        chance = random.Random(11)
        seen = {True: 0, False: 0}
        for _ in range(1500):
            names = [0, X0, Y0, "a", "b", 7, ("deep", ("er",))][:chance.randint(1, 7)]
            rows = self.chance_rows(chance, names, chance.randint(1, 12))
            kept = self.can_be_kept(rows)
            with Kept(self, rows):
                told = ring_of(rows)
            if kept:
                self.assertIsNone(told, rows)
            else:
                self.assertIsNone(is_ring(rows, told), (rows, told))
                self.assertIsNone(need_ring(rows, told))
            seen[kept] += 1
        self.assertGreater(min(seen.values()), 300)

    def test_by_hand(self):
        self.assertEqual(ring_of([]), ())
        self.assertIsNone(ring_of(rows=[("a", "b", 0), ("b", "a", 0)]))
        self.assertEqual(ring_of([("a", "b", 0), ("b", "a", -1)]), (0, 1))
        self.assertEqual(ring_of([(0, 0, 0), (0, 0, -1)]), (1,))
        self.assertEqual(ring_of([("c", "a", -1), ("z", "z", 5), ("b", "c", 1), ("q", "a", -9), ("a", "b", -1)]), (0, 4, 2))
        self.assertEqual(ring_of([("a", "b", 10 ** 3999), ("b", "a", -(10 ** 3999) - 1)]), (0, 1))
        self.assertIsNone(ring_of([("a", "b", 10 ** 3999), ("b", "a", -(10 ** 3999))]))

    def test_names_may_be_anything(self):
        first, second = [1], {"b": [2]}
        self.assertEqual(ring_of([(first, second, 1), (second, first, -2)]), (0, 1))
        self.assertIsNone(ring_of([(first, second, 2), (second, first, -2)]))
        self.assertIsNone(need_ring([(None, b"x", 1), (b"x", None, -2)], (0, 1)))

    def test_a_long_ring(self):
        rows = [(k, (k + 1) % 60, 1) for k in range(60)]
        self.assertIsNone(ring_of(rows))
        rows[37] = (37, 38, -60)
        self.assertEqual(ring_of(rows), tuple(range(60)))
        backwards = rows[::-1]
        self.assertIsNone(is_ring(backwards, ring_of(backwards)))

    def test_need_ring_by_all_short_papers(self):
        chance = random.Random(12)
        for _ in range(6):
            rows = self.chance_rows(chance, [0, X0, Y0], 5)
            for many in range(5):
                for paper in itertools.product(range(-1, 6), repeat=many):
                    self.look(rows, paper)

    def look(self, rows, paper):
        due = is_ring(rows, paper)
        if due is None:
            self.assertIsNone(need_ring(rows, paper))
        else:
            refused(self, BadPaper, "about", due[0], need_ring, rows, paper)

    def test_papers_of_no_form(self):
        rows = [("a", "b", 0), ("b", "a", -1), ("a", "a", 0)]
        for paper in ODD_THINGS + [[0, 1], (1, 0), (0, 0), (0, 1, 0, 1), (0, 3), (-1,), (0, True), (False, 1), ("0",), "0", 0]:
            refused(self, BadPaper, "about", None, need_ring, rows, paper)
        refused(self, BadPaper, "about", 0, need_ring, rows, (0, 2))
        refused(self, BadPaper, "about", 0, need_ring, rows, (0,))
        refused(self, BadPaper, "about", "sum", need_ring, rows, (2,))
        refused(self, BadPaper, "about", 2, need_ring, [("a", "b", 0), ("b", "c", -1), ("c", "b", -5)], (0, 1, 2))
        self.assertIsNone(need_ring(rows=rows, paper=(0, 1)))
        self.assertIsNone(need_ring(rows, (0, 1)))
        self.assertIsNone(need_ring([], ()))
        for paper in ODD_THINGS + [(0,), [], (0, 1)]:
            if not isinstance(paper, tuple) or len(paper) > 0:
                refused(self, BadPaper, "about", None, need_ring, [], paper)

    def test_check_ring(self):
        one, other, pattern = (0, 0), (0, 1), ("<", "*")
        self.assertIsNone(meeting(CROSS, one, other, pattern))
        rows = binds(CROSS, one, other, pattern)
        self.assertIsNone(check_ring(program=CROSS, one=one, other=other, pattern=pattern, paper=(9, 12)))
        self.assertIsNone(ring(CROSS, (0, 0), (0, 1), (">", "*")))
        for paper in ODD_THINGS + [(12, 9), [9, 12], (9, 12, 13), (9, 9)]:
            refused(self, BadPaper, "about", None, check_ring, CROSS, one, other, pattern, paper)
        for paper in [(9,), (8, 9), (9, 12), (0, 1), (9, 10), (12,), (0, 3, 9), (8, 9, 12), (2, 3)]:
            due = is_ring(rows, paper)
            if due is None:
                self.assertIsNone(check_ring(CROSS, one, other, pattern, paper))
            else:
                refused(self, BadPaper, "about", due[0], check_ring, CROSS, one, other, pattern, paper)
        for paper in [(0,), [], None, (0, 1), Touchy()]:
            refused(self, BadPaper, "about", None, check_ring, PRODUCT, (0, 0), (0, 1), ("=", "=", "="), paper)


if __name__ == "__main__":
    unittest.main()
