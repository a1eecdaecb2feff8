"""[10] to [13]: the plain walk."""

import unittest

from lanewright.errors import BadGiven, BadNumber, BadProgram, BadSizes, NoSuch
from lanewright.plain import last_writer, plain_run, reads, stand_behind, tale, traffic
from tests.helper import (
    CROSS, LINE, ODD_THINGS, PRODUCT, PROGRAMS, Kept, add, at, by, chance_program, fixed, given_for, num, put, refused, slow_walk,
    with_part,
)

# Every op at the edges of WORDS, into cells of their own.
EDGES = (
    ("m",),
    (("in", "given", (fixed(3),)), ("out", "told", (fixed(2), fixed(4))), ("own", "own", (by("m"),))),
    (
        (
            (("i", fixed(1)),),
            (
                put("out", (("", 0), ("", 0)), ("add", at("in", ("", 0)), at("in", ("", 1)))),
                put("out", (("", 0), ("", 1)), ("sub", at("in", ("", 2)), at("in", ("", 1)))),
                put("out", (("", 0), ("", 2)), ("mul", at("in", ("", 0)), at("in", ("", 0)))),
                put("out", (("", 0), ("", 3)), ("min", at("in", ("", 0)), at("in", ("", 1)))),
            ),
        ),
        (
            (("i", fixed(3)),),
            (
                put("out", (("", 1), ("", 0)), ("max", at("in", ("", 0)), at("in", ("", 1)))),
                add("out", (("", 1), ("", 1)), at("in", ("", 0))),
                add("out", (("", 1), ("i", 1)), ("sub", ("loop", "i"), num(1))),
            ),
        ),
    ),
)


def some_sizes(program):
    for size in (1, 2, 3):
        yield (size,) * len(program[0])
    yield (4, 1, 3)[:len(program[0])]


class ByHand(unittest.TestCase):
    def test_a_product(self):
        given = ((1, 2, 3, 4), (5, 6, 7, 65535))
        self.assertEqual(plain_run(PRODUCT, (2, 2, 2), given), (("c", (19, 4, 43, 14)),))

    def test_edges_of_words(self):
        given = ((65535, 1, 0),)
        self.assertEqual(plain_run(EDGES, (2,), given), (("out", (0, 65535, 1, 1, 65535, 65532, 0, 1)),))
        self.assertEqual(stand_behind(EDGES, (2,), given, 0), (
            ("in", (65535, 1, 0)), ("out", (0, 65535, 1, 1, 0, 0, 0, 0)), ("own", (0, 0))))
        self.assertEqual(traffic(EDGES, (2,), given), ((8, 4), (15, 9)))

    def test_rows(self):
        given = ((7, 8, 65535, 3),)
        stores = tale(program=LINE, sizes=(2,), given=given)
        self.assertEqual(stores, (
            (0, 0, (0,), "near", (0,), 14), (0, 1, (0,), "flag", (0, 2), 0),
            (0, 0, (1,), "near", (1,), 10), (0, 1, (1,), "flag", (0, 2), 1),
            (1, 0, (0,), "sums", (1,), 65522), (1, 1, (0,), "sums", (0,), 14),
            (1, 0, (1,), "sums", (2,), 65512), (1, 1, (1,), "sums", (0,), 24),
        ))
        loads = reads(program=LINE, sizes=(2,), given=given)
        self.assertEqual(loads[:4], (
            (0, 0, (0,), "raw", (0,), 7), (0, 0, (0,), "raw", (1,), 8), (0, 0, (0,), "raw", (2,), 65535), (0, 1, (0,), "flag", (0, 2), 0)))
        self.assertEqual(loads[8:], (
            (1, 0, (0,), "sums", (0,), 0), (1, 0, (0,), "near", (0,), 14), (1, 1, (0,), "near", (0,), 14), (1, 1, (0,), "sums", (0,), 0),
            (1, 0, (1,), "sums", (1,), 65522), (1, 0, (1,), "near", (1,), 10),
            (1, 1, (1,), "near", (1,), 10), (1, 1, (1,), "sums", (0,), 14)))
        self.assertEqual(traffic(program=LINE, sizes=(2,), given=given), ((8, 4), (8, 4), (0, 0)))
        self.assertEqual(plain_run(program=LINE, sizes=(2,), given=given), (("sums", (24, 65522, 65512)), ("flag", (0, 0, 1))))

    def test_an_add_loads_its_own_cell_behind_its_expr(self):
        program = (("m",), (("a", "told", (fixed(2),)),), ((
            (("i", fixed(2)),), (add("a", (("i", 0),), ("add", at("a", ("i", 0)), num(3))),)),))
        self.assertEqual(reads(program, (1,), ()), (
            (0, 0, (0,), "a", (0,), 0), (0, 0, (0,), "a", (0,), 0), (0, 0, (1,), "a", (1,), 0), (0, 0, (1,), "a", (1,), 0)))
        doubled = with_part(program, (2, 0, 1), program[2][0][1] * 2)
        self.assertEqual(plain_run(doubled, (1,), ()), (("a", (9, 9)),))

    def test_loops_that_never_go(self):
        self.assertEqual(stand_behind(LINE, (1,), ((1, 2, 3),), 2), stand_behind(LINE, (1,), ((1, 2, 3),), 1))
        program = (("m",), (("a", "own", (fixed(1),)),), (((("i", by("m", 1, -1)), ("j", by("m"))), (put("a", (("", 0),), num(5)),)),))
        self.assertEqual(tale(program, (1,), ()), ())
        self.assertEqual(reads(program, (1,), ()), ())
        self.assertEqual(traffic(program, (1,), ()), ((0, 0),))
        self.assertEqual(traffic(program, (3,), ()), ((0, 6),))
        self.assertEqual(plain_run(program, (1,), ()), ())
        self.assertEqual(stand_behind(program, (1,), (), 0), (("a", (0,)),))
        self.assertEqual(stand_behind(program, (2,), (), 0), (("a", (5,)),))

    def test_last_writer(self):
        given = ((7, 8, 65535, 3),)
        self.assertEqual(last_writer(LINE, (2,), given, 0, "flag", (0, 2)), (0, 1, (1,), "flag", (0, 2), 1))
        self.assertEqual(last_writer(program=LINE, sizes=(2,), given=given, nest=2, array="sums", cell=(0,)), (1, 1, (1,), "sums", (0,), 24))
        self.assertIsNone(last_writer(LINE, (2,), given, 0, "sums", (0,)))
        self.assertIsNone(last_writer(LINE, (2,), given, 2, "raw", (0,)))
        self.assertIsNone(last_writer(LINE, (2,), given, 2, "flag", (0, 0)))


class BesideAnotherWalk(unittest.TestCase):
    def look(self, program, sizes, given):
        with Kept(self, program, sizes, given):
            stores, loads, stands = slow_walk(program, sizes, given)
            self.assertEqual(tale(program, sizes, given), stores)
            self.assertEqual(reads(program, sizes, given), loads)
            for nest in range(-1, len(program[2])):
                self.assertEqual(stand_behind(program, sizes, given, nest), stands[nest + 1])
            told = {name for name, kind, _ in program[1] if kind == "told"}
            self.assertEqual(plain_run(program, sizes, given), tuple(pair for pair in stands[-1] if pair[0] in told))
            self.assertEqual(traffic(program, sizes, given), tuple(
                (sum(row[0] == nest for row in loads), sum(row[0] == nest for row in stores)) for nest in range(len(program[2]))))
            self.writers(program, sizes, given, stores, stands[-1])

    def writers(self, program, sizes, given, stores, stand):
        cells = {(row[3], row[4]) for row in stores[:3] + stores[-3:]}
        for nest in range(len(program[2])):
            for array, cell in cells:
                due = [row for row in stores if row[0] <= nest and row[3:5] == (array, cell)]
                self.assertEqual(last_writer(program, sizes, given, nest, array, cell), due[-1] if due else None)

    def test_programs(self):
        for program in PROGRAMS + [EDGES]:
            for sizes in some_sizes(program):
                for seed in range(3):
                    self.look(program, sizes, given_for(program, sizes, seed))

    def test_programs_by_chance(self):
        for seed in range(150):
            program = chance_program(seed)
            for sizes in some_sizes(program):
                self.look(program, sizes, given_for(program, sizes, seed))

    def test_the_greatest_sizes(self):
        for program in PROGRAMS:
            sizes = (12,) * len(program[0])
            self.look(program, sizes, given_for(program, sizes))


class Refused(unittest.TestCase):
    CALLS = [(plain_run, 0), (stand_behind, 1), (tale, 0), (reads, 0), (traffic, 0), (last_writer, 3)]

    def test_programs_then_sizes_then_given(self):
        for call, many in self.CALLS:
            rest = [None] * many
            for thing in ODD_THINGS:
                if not isinstance(thing, tuple) or len(thing) != 3:
                    refused(self, BadProgram, "place", None, call, thing, None, None, *rest)
            refused(self, BadProgram, "place", ("nests",), call, with_part(LINE, (2,), None), None, None, *rest)
            for thing in ODD_THINGS:
                if not isinstance(thing, tuple) or len(thing) != 1:
                    refused(self, BadSizes, "about", None, call, LINE, thing, None, *rest)
            refused(self, BadSizes, "about", 0, call, LINE, (13,), None, *rest)
            for thing in ODD_THINGS + [((1, 2, 3),), ((1, 2, 3),) * 3, [(1, 2), (3, 4)]]:
                if not isinstance(thing, tuple) or len(thing) != 2:
                    refused(self, BadGiven, "about", None, call, PRODUCT, (1, 1, 2), thing, *rest)

    def test_given_words(self):
        good = ((1, 2), (0, 65535))
        for call, many in self.CALLS:
            rest = [None] * many
            for place in range(2):
                for thing in ODD_THINGS + [(1,), (1, 2, 3), [1, 2], (1, 65536), (-1, 2), (True, 2), (1, None), ("1", 2), "ab"]:
                    refused(self, BadGiven, "about", place, call, PRODUCT, (1, 1, 2), with_part(good, (place,), thing), *rest)
            refused(self, BadGiven, "about", 0, call, PRODUCT, (1, 1, 2), (None, None), *rest)
        self.assertEqual(plain_run(PRODUCT, (1, 1, 2), good), (("c", (65534,)),))

    def test_no_given_arrays(self):
        program = (("m",), (("a", "told", (by("m"),)),), (((("i", by("m")),), (put("a", (("i", 0),), ("loop", "i")),)),))
        self.assertEqual(plain_run(program, (3,), ()), (("a", (0, 1, 2)),))
        refused(self, BadGiven, "about", None, plain_run, program, (3,), ((0, 0, 0),))

    def test_numbers_of_nests(self):
        given = ((1, 2, 3),)
        for thing in [None, True, False, -2, 3, "0", (0,), [0], 10 ** 3999, object(), {}]:
            refused(self, BadNumber, "about", thing, stand_behind, LINE, (1,), given, thing)
            refused(self, BadNumber, "about", thing, last_writer, LINE, (1,), given, thing, None, None)
        refused(self, BadNumber, "about", -1, last_writer, LINE, (1,), given, -1, "raw", (0,))
        self.assertEqual(stand_behind(program=LINE, sizes=(1,), given=given, nest=-1),
                         (("raw", (1, 2, 3)), ("near", (0,)), ("sums", (0, 0)), ("flag", (0, 0, 0))))

    def test_arrays_and_cells(self):
        given = ((1, 2, 3),)
        for thing in ODD_THINGS + ["i", "n", ("raw",)]:
            refused(self, NoSuch, "name", thing, last_writer, LINE, (1,), given, 0, thing, None)
        for thing in ODD_THINGS + [3, (3,), (0, 0), (-1,), [0], (True,), ("0",)]:
            refused(self, BadNumber, "about", thing, last_writer, LINE, (1,), given, 0, "raw", thing)
        for thing in [(0,), (1, 0), (0, 3), (0, -1), (0, False), [0, 0]]:
            refused(self, BadNumber, "about", thing, last_writer, LINE, (1,), given, 0, "flag", thing)
        refused(self, BadNumber, "about", (2, 0), last_writer, CROSS, (1, 1), ((0, 0),), 0, "w", (2, 0))


if __name__ == "__main__":
    unittest.main()
