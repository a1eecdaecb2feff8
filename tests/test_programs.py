"""[2] to [5]: what is a PROGRAM, and what is asked of one."""

import itertools
import unittest

from lanewright import programs
from lanewright.errors import BadNumber, BadProgram, BadSizes, NoSuch
from lanewright.programs import (
    accesses_of, are_like, array_of, cell_at, cells_at, dims_at, loops_of, need_head, need_program, need_sizes, rounds_at,
)
from tests.helper import (
    CROSS, LINE, ODD_THINGS, PRODUCT, PROGRAMS, Kept, add, all_sizes, at, by, chance_program, count_of, deep_list, fixed, num,
    put, refused, with_part,
)

BIG = (4, (("m", 2), ("n", 3)))
ODD_NUMBERS = [None, True, False, -1, 10 ** 3999, "0", b"0", (0,), [0], {}, {0}, (), object(), int]


def one_nest(loops, steps, arrays=(("a", "told", (fixed(9),)),), sizes=("m", "n", "k")):
    return (sizes, tuple(arrays), ((tuple(loops), tuple(steps)),))


def deep(levels, leaf=("num", 1)):
    expr = leaf
    for _ in range(levels - 1):
        expr = ("add", ("num", 2), expr)
    return expr


def full(levels, leaf):
    return leaf if levels == 1 else ("max", full(levels - 1, leaf), full(levels - 1, leaf))


class Forms(unittest.TestCase):
    def good(self, program):
        with Kept(self, program):
            self.assertIsNone(need_program(program))
            self.assertIsNone(need_head(program[0], program[1]))

    def bad(self, program, place):
        refused(self, BadProgram, "place", place, need_program, program)

    def head_bad(self, sizes, arrays, place):
        refused(self, BadProgram, "place", place, need_head, sizes, arrays)
        self.bad((sizes, arrays, PRODUCT[2]), place)
        self.bad((sizes, arrays, None), place)

    def test_constants(self):
        self.assertEqual((programs.MOST_CELLS, programs.MOST_ROUNDS, programs.MOST_ACCESSES), (4096, 2000, 24))

    def test_good_ones(self):
        for program in PROGRAMS:
            self.good(program)
        for seed in range(200):
            self.good(chance_program(seed))
        self.assertIsNone(need_program(thing=PRODUCT))
        self.assertIsNone(need_head(sizes=PRODUCT[0], arrays=PRODUCT[1]))

    def test_none_of_anything(self):
        for thing in ODD_THINGS + [PRODUCT[:2], PRODUCT + ((),), list(PRODUCT), deep_list(PRODUCT)]:
            if not isinstance(thing, tuple) or len(thing) != 3:
                self.bad(thing, None)

    def test_sizes(self):
        for sizes in ODD_THINGS + [("m", "m"), ("m", "n", "k", "l"), ["m"], ("m", ""), ("m", "n", "m"), "m", ("M",)]:
            self.head_bad(sizes, PRODUCT[1], ("sizes",))
            self.head_bad(sizes, None, ("sizes",))
        self.assertIsNone(need_head(("z", "a"), (("m", "own", (by("a"),)),)))

    def test_arrays(self):
        array = ("a", "told", (fixed(9),))
        for arrays in [None, (), [], [array], {}, "a", 3, tuple((name, "own", (fixed(1),)) for name in "abcdefg"), deep_list((array,))]:
            self.head_bad(("m",), arrays, ("array", None))
        six = tuple((name, "own", (fixed(1),)) for name in "abcdef")
        self.assertIsNone(need_head(("m",), six))
        for place in range(6):
            for thing in ODD_THINGS + [("a", "own"), ("a", "own", (fixed(1),), 0), list(array), ("A", "own", (fixed(1),))]:
                self.head_bad(("m",), with_part(six, (place,), thing), ("array", place))
        self.head_bad(("m",), with_part(six, (4, 0), "b"), ("array", 4))
        self.head_bad(("m",), with_part(with_part(six, (4, 0), "b"), (3, 1), "near"), ("array", 3))

    def test_parts_of_arrays(self):
        for path, things in [
            ((0,), ODD_THINGS),
            ((1,), ODD_THINGS + ["Told", "tell", "near", ("told",)]),
            ((2,), ODD_THINGS + [[fixed(1)], (fixed(1), fixed(1), fixed(1)), ([1, ()],)]),
            ((2, 0), ODD_THINGS + [(1,), (1, [])]),
        ]:
            for thing in things:
                self.head_bad(("m",), (with_part(("a", "told", (fixed(9),)), path, thing),), ("array", 0))

    def test_dims_are_never_below_one(self):
        for dim, good in [(fixed(1), True), (fixed(0), False), (by("m", 1, 0), True), (by("m", 1, -1), False), (by("m", 3, -2), True),
                          (by("m", 3, -3), False), ((-2, (("m", 1), ("n", 2))), True), ((-3, (("m", 1), ("n", 2))), False)]:
            for dims in [(dim,), (dim, fixed(2)), (fixed(2), dim)]:
                arrays = (("a", "own", dims),)
                if good:
                    self.assertIsNone(need_head(("m", "n"), arrays))
                else:
                    self.head_bad(("m", "n"), arrays, ("array", 0))
        self.head_bad(("m",), (("a", "own", (by("n"),)),), ("array", 0))

    def test_most_cells(self):
        self.assertEqual(count_of(BIG, {"m": 12, "n": 12}), 64)
        self.assertIsNone(need_head(("m", "n"), (("a", "own", (BIG, BIG)),)))
        # 41 times 100 is 4,100: no product of two such numbers is any closer to 4,096 from above.
        self.head_bad(("m", "n", "k"), (("a", "own", (by("m", 3, 5), (4, (("k", 2), ("m", 3), ("n", 3))))),), ("array", 0))
        self.head_bad(("m", "n"), (("b", "own", (BIG, BIG)), ("a", "own", (BIG, (5, BIG[1])))), ("array", 1))

    def test_nests(self):
        nest = PRODUCT[2][0]
        for nests in [None, (), [], [nest], (nest,) * 6, 7, "nest", {}]:
            self.bad(PRODUCT[:2] + (nests,), ("nests",))
        self.good(PRODUCT[:2] + ((nest,) * 5,))

    def test_pairs_and_lengths_of_nests(self):
        loops, steps = PRODUCT[2][0]
        spare = [("a" * k, fixed(1)) for k in range(1, 4)]
        for nest in ODD_THINGS + [
            (loops,), (loops, steps, ()), [loops, steps], (list(loops), steps), (loops, list(steps)), ((), steps), (loops, ()),
            (loops + (spare[0],), steps), (loops, steps * 5), ({}, steps), (loops, None), (None, None),
        ]:
            for number in range(3):
                nests = with_part((PRODUCT[2][0],) * 3, (number,), nest)
                self.bad(PRODUCT[:2] + (nests,), ("nest", number, None))
        self.good(PRODUCT[:2] + (((loops, steps * 4),),))

    def test_loops(self):
        steps = (put("a", (("", 0),), num(1)),)
        three = tuple((name, fixed(1)) for name in ("i", "j", "t"))
        for place in range(3):
            for loop in ODD_THINGS + [("x", fixed(1), 0), ["x", fixed(1)], ("m", fixed(1)), ("n", fixed(1)), ("x", (1, [])),
                                      ("x", by("z")), ("x", fixed(-1)), ("x", by("m", 1, -2)), ("x", by("m", 3, -4)), ("x", fixed(21))]:
                self.bad(one_nest(with_part(three, (place,), loop), steps), ("nest", 0, "loop", place))
        self.bad(one_nest((three[0], three[1], three[0]), steps), ("nest", 0, "loop", 2))
        self.good(one_nest((("a", fixed(0)), ("x", by("m", 1, -1)), ("y", by("n", 3, -3))), steps))

    def test_most_rounds(self):
        steps = (put("a", (("", 0),), num(1)),)
        hundred = (4, (("k", 2), ("m", 3), ("n", 3)))
        self.good(one_nest((("x", fixed(20)), ("y", hundred)), steps))
        # 3 times 23 times 29 is 2,001.
        loops = (("x", fixed(3)), ("y", by("m", 1, 11)), ("z", by("n", 2, 5)))
        self.bad(one_nest(loops, steps), ("nest", 0, "rounds"))
        self.good(one_nest((("x", hundred), ("y", hundred), ("z", fixed(0))), steps))
        self.bad(one_nest(loops, (None,)), ("nest", 0, "rounds"))
        self.bad(one_nest(loops[:2] + (None,), (None,)), ("nest", 0, "loop", 2))

    def test_steps(self):
        step = put("a", (("", 0),), num(1))
        loops = (("i", fixed(9)),)
        for place in range(4):
            for thing in ODD_THINGS + [step[:3], step + (0,), list(step), ("set",) + step[1:], ("load",) + step[1:]]:
                self.bad(one_nest(loops, with_part((step,) * 4, (place,), thing)), ("nest", 0, "step", place))
        for path, things in [
            ((0,), ODD_THINGS), ((1,), ODD_THINGS + ["b", "i", "m"]), ((2,), ODD_THINGS + [[("", 0)], (("", 0), ("", 0)), ("", 0)]),
            ((2, 0), ODD_THINGS + [("",), ("", 0, 0), ["", 0], ("x", 0), ("m", 0), ("a", 0)]),
            ((2, 0, 0), [None, 0, "x", "I", b"", (), [], "m"]),
            ((2, 0, 1), [None, True, False, -1, 10, 9, "0", (), 10 ** 3999]),
            ((3,), ODD_THINGS + [("num",), ("num", 1, 1), ["num", 1], ("word", 1), ("lop", "i"), ("add", num(1)), ("add", num(1), num(1), num(1)),
                                 ("div", num(1), num(1)), ("less", num(1), num(1)), ("at", "a"), ("at", "a", ()), ("at", "b", (("", 0),)),
                                 ("at", "a", [("", 0)]), ("at", "a", (("", 9),)), ("at", "a", (("i", 1),)), ("loop", "x"), ("loop", ""),
                                 ("loop", "m"), ("loop", ["i"]), ("num", "i"), ([], 1), ({}, num(1), num(1))]),
            ((3, 1), [None, True, False, -1, 65536, "1", 10 ** 3999, (1,), [1]]),
        ]:
            for thing in things:
                self.bad(one_nest(loops, (step, with_part(step, path, thing))), ("nest", 0, "step", 1))
        self.good(one_nest(loops, (put("a", (("i", 0),), num(65535)), add("a", (("", 8),), ("loop", "i")))))

    def test_an_index_is_at_most_nine_on(self):
        wide = (("a", "told", (fixed(20),)),)
        for loop in ("i", ""):
            self.good(one_nest((("i", fixed(9)),), (put("a", ((loop, 9),), at("a", (loop, 9))),), wide))
            for step in [put("a", ((loop, 10),), num(1)), put("a", ((loop, 0),), at("a", (loop, 10)))]:
                self.bad(one_nest((("i", fixed(9)),), (step,), wide), ("nest", 0, "step", 0))

    def test_given_arrays_are_not_stored_to(self):
        arrays = (("a", "given", (fixed(9),)), ("b", "own", (fixed(9),)))
        loops = (("i", fixed(9)),)
        read = put("b", (("i", 0),), at("a", ("i", 0)))
        self.good(one_nest(loops, (read,), arrays))
        for word in ("put", "add"):
            wrong = (word, "a", (("i", 0),), num(1))
            self.bad(one_nest(loops, (read, wrong), arrays), ("nest", 0, "step", 1))

    def test_loops_of_another_nest_are_not_there(self):
        nest = ((("i", fixed(2)),), (put("a", (("i", 0),), num(1)),))
        other = ((("j", fixed(2)),), (put("a", (("i", 0),), num(1)),))
        self.bad((("m",), (("a", "own", (fixed(9),)),), (nest, other)), ("nest", 1, "step", 0))

    def test_no_round_leaves_an_array_whatever_the_sizes(self):
        counts = [fixed(0), fixed(1), fixed(4), by("m"), by("m", 1, -1), by("m", 2), by("n"), (-1, (("m", 1), ("n", 1))), by("m", 3, -2)]
        dims = [fixed(1), fixed(4), fixed(12), by("m"), by("m", 1, 3), by("n", 1, 1), (0, (("m", 1), ("n", 1))), by("m", 3), by("m", 2, -1)]
        for count, dim, more in itertools.product(counts, dims, [0, 1, 3, 9]):
            named = [dict(zip("mn", sizes)) for sizes in itertools.product(range(1, 13), repeat=2)]
            arrays = (("a", "own", (dim,)), ("b", "own", (fixed(1), dim)))
            for loop, good in [
                ("i", all(count_of(count, sizes) + more <= count_of(dim, sizes) for sizes in named)),
                ("", all(more < count_of(dim, sizes) for sizes in named)),
            ]:
                for step in [
                    put("a", ((loop, more),), num(1)), add("a", ((loop, more),), num(1)), put("b", (("", 0), (loop, more)), num(1)),
                    put("b", (("", 0), ("", 0)), at("a", (loop, more))),
                    put("b", (("", 0), ("", 0)), ("min", num(1), ("mul", num(2), at("b", ("", 0), (loop, more))))),
                ]:
                    program = one_nest((("i", count),), (step,), arrays)
                    if good:
                        self.good(program)
                    else:
                        self.bad(program, ("nest", 0, "step", 0))

    def test_exprs_are_at_most_five_deep(self):
        loops = (("i", fixed(9)),)
        for leaf in [num(1), ("loop", "i"), at("a", ("i", 0))]:
            for expr in [deep(5, leaf), ("sub", deep(4, leaf), leaf), full(5, num(1))]:
                self.good(one_nest(loops, (put("a", (("i", 0),), expr),)))
            for expr in [deep(6, leaf), ("sub", leaf, deep(5, leaf)), ("sub", deep(5, leaf), leaf), full(6, leaf), deep(40, leaf)]:
                self.bad(one_nest(loops, (put("a", (("i", 0),), expr),)), ("nest", 0, "step", 0))

    def test_most_accesses(self):
        loops = (("i", fixed(9)),)
        load = at("a", ("i", 0))
        sixteen = put("a", (("i", 0),), full(5, load))
        seven = put("a", (("i", 0),), ("add", full(3, load), ("add", ("add", load, load), num(1))))
        six = add("a", (("i", 0),), full(3, load))
        self.assertEqual(len(accesses_of(one_nest(loops, (sixteen, six)), 0)), 23)
        self.good(one_nest(loops, (sixteen, seven)))
        self.good(one_nest(loops, (six, six, six, six)))
        self.bad(one_nest(loops, (sixteen, seven, put("a", (("", 0),), num(1)))), ("nest", 0, "accesses"))
        self.bad(one_nest(loops, (six, six, six, add("a", (("i", 0),), ("add", full(3, load), load)))), ("nest", 0, "accesses"))
        self.bad(one_nest(loops, (sixteen, sixteen, None)), ("nest", 0, "step", 2))

    def test_the_first_of_several(self):
        nest, bad_nest = PRODUCT[2][0], (PRODUCT[2][0][0], (None,))
        self.bad(PRODUCT[:2] + ((nest, bad_nest, None),), ("nest", 1, "step", 0))
        self.bad(PRODUCT[:2] + ((None, bad_nest),), ("nest", 0, None))
        self.bad((("M",), None, None), ("sizes",))
        self.bad((PRODUCT[0], (None, None), None), ("array", 0))
        self.bad((PRODUCT[0], PRODUCT[1], (nest,) * 5 + (None,)), ("nests",))
        self.bad(PRODUCT[:2] + ((nest, ((), (None,)), bad_nest),), ("nest", 1, None))
        self.bad(PRODUCT[:2] + ((((None, ("i", fixed(-1))), (None,)),),), ("nest", 0, "loop", 0))


class Asked(unittest.TestCase):
    def test_bad_program_is_first_of_all(self):
        broken = with_part(PRODUCT, (1, 1, 0), "a")
        for call, more in [
            (accesses_of, 1), (loops_of, 1), (are_like, 2), (array_of, 1), (cell_at, 3), (need_sizes, 1), (dims_at, 2), (cells_at, 2),
            (rounds_at, 2),
        ]:
            for thing in ODD_THINGS:
                if isinstance(thing, tuple) and len(thing) == 3:
                    continue
                refused(self, BadProgram, "place", None, call, thing, *[None] * more)
            refused(self, BadProgram, "place", ("array", 1), call, broken, *[None] * more)

    def test_numbers_of_nests(self):
        for program in PROGRAMS:
            many = len(program[2])
            for thing in ODD_NUMBERS + [many]:
                refused(self, BadNumber, "about", thing, accesses_of, program, thing)
                refused(self, BadNumber, "about", thing, loops_of, program, thing)
                refused(self, BadNumber, "about", thing, are_like, program, thing, None)
                refused(self, BadNumber, "about", thing, are_like, program, many - 1, thing)
                refused(self, BadNumber, "about", thing, cell_at, program, thing, None, None)
                refused(self, BadNumber, "about", thing, rounds_at, program, thing, (1,) * len(program[0]))

    def test_accesses_in_order(self):
        ij, it, tj = (("i", 0), ("j", 0)), (("i", 0), ("t", 0)), (("t", 0), ("j", 0))
        with Kept(self, PRODUCT):
            told = accesses_of(PRODUCT, 0)
        self.assertEqual(told, [(0, ("load", "a", it)), (0, ("load", "b", tj)), (0, ("load", "c", ij)), (0, ("store", "c", ij))])
        i, one = (("i", 0),), (("i", 1),)
        self.assertEqual(accesses_of(program=LINE, nest=1), [
            (0, ("load", "sums", i)), (0, ("load", "near", i)), (0, ("store", "sums", one)),
            (1, ("load", "near", i)), (1, ("load", "sums", (("", 0),))), (1, ("store", "sums", (("", 0),))),
        ])
        self.assertEqual(accesses_of(LINE, 2), [(0, ("store", "flag", (("", 0), ("", 1))))])
        self.assertEqual([access[1][0] for access in accesses_of(LINE, 0)], ["load"] * 3 + ["store", "load", "store"])

    def test_lists_are_the_askers_own(self):
        for call, things in [
            (accesses_of, (PRODUCT, 0)), (cells_at, (PRODUCT, "a", (2, 2, 2))), (rounds_at, (PRODUCT, 0, (2, 2, 2))),
        ]:
            told = call(*things)
            due = list(told)
            self.assertIs(type(told), list)
            told.clear()
            self.assertEqual(call(*things), due)

    def test_loops(self):
        for program in PROGRAMS:
            for nest, (loops, _) in enumerate(program[2]):
                self.assertEqual(loops_of(program, nest), loops)
                for other, (there, _) in enumerate(program[2]):
                    self.assertIs(are_like(program, nest, other), loops == there)
        self.assertEqual(loops_of(program=LINE, nest=2), LINE[2][2][0])
        self.assertIs(are_like(program=CROSS, nest=0, other=1), True)
        self.assertIs(are_like(CROSS, 1, 2), False)
        steps = (put("a", (("", 0),), num(1)),)
        unlike = (("m",), (("a", "own", (fixed(9),)),), (((("i", by("m")),), steps), ((("j", by("m")),), steps), ((("i", by("m", 2)),), steps)))
        self.assertIs(are_like(unlike, 0, 1), False)
        self.assertIs(are_like(unlike, 0, 2), False)

    def test_arrays(self):
        for program in PROGRAMS:
            for array in program[1]:
                self.assertEqual(array_of(program, array[0]), array)
            for thing in ODD_THINGS + ["i", "zz", ("a",), b"a"]:
                refused(self, NoSuch, "name", thing, array_of, program, thing)
        self.assertEqual(array_of(program=PRODUCT, name="c"), PRODUCT[1][2])

    def test_cell_at(self):
        for program in PROGRAMS + [chance_program(seed) for seed in range(30)]:
            for nest, (loops, _) in enumerate(program[2]):
                for spots in itertools.islice(itertools.product([0, 1, 5, 2000], repeat=len(loops)), 40):
                    where = dict(zip([loop[0] for loop in loops], spots))
                    for number, (_, access) in enumerate(accesses_of(program, nest)):
                        due = tuple(where.get(loop, 0) + more for loop, more in access[2])
                        self.assertEqual(cell_at(program, nest, number, spots), due)
        self.assertEqual(cell_at(program=PRODUCT, nest=0, access=1, spots=(7, 2000, 1999)), (1999, 2000))
        self.assertEqual(cell_at(LINE, 2, 0, (3, 0)), (0, 1))

    def test_cell_at_refuses_in_order(self):
        for thing in ODD_NUMBERS + [4]:
            refused(self, BadNumber, "about", thing, cell_at, PRODUCT, 0, thing, None)
        refused(self, BadNumber, "about", 1, cell_at, PRODUCT, 1, -1, None)
        for spots in ODD_THINGS + [(0, 0), (0, 0, 0, 0), [0, 0, 0], (0, -1, 0), (0, 0, 2001), (True, 0, 0), (0, 0, "0")]:
            refused(self, BadNumber, "about", spots, cell_at, PRODUCT, 0, 3, spots)


class BySizes(unittest.TestCase):
    def test_need_sizes(self):
        for sizes in ODD_THINGS + [(1, 1), (1, 1, 1, 1), [1, 1, 1], "111"]:
            if isinstance(sizes, tuple) and len(sizes) == 3:
                refused(self, BadSizes, "about", 0, need_sizes, PRODUCT, sizes)
            else:
                refused(self, BadSizes, "about", None, need_sizes, PRODUCT, sizes)
        for program in (LINE, CROSS):
            for many in range(5):
                if many == len(program[0]):
                    self.assertIsNone(need_sizes(program, (1,) * many))
                else:
                    refused(self, BadSizes, "about", None, need_sizes, program, (1,) * many)
        for place in range(3):
            for size in ODD_THINGS + [0, 13, -1, "1", (1,)]:
                refused(self, BadSizes, "about", place, need_sizes, PRODUCT, with_part((1, 12, 5), (place,), size))
        refused(self, BadSizes, "about", 1, need_sizes, PRODUCT, (1, 0, 13))
        self.assertIsNone(need_sizes(program=PRODUCT, sizes=(1, 12, 7)))
        for sizes in all_sizes(CROSS):
            self.assertIsNone(need_sizes(CROSS, sizes))

    def test_all_told_by_sizes(self):
        for program in PROGRAMS + [chance_program(seed) for seed in range(20)]:
            for sizes in itertools.islice(all_sizes(program), 0, None, 7):
                if sizes[0] > 6 and len(sizes) == 3:
                    continue
                named = dict(zip(program[0], sizes))
                with Kept(self, program, sizes):
                    for name, _, dims in program[1]:
                        due = tuple(count_of(dim, named) for dim in dims)
                        self.assertEqual(dims_at(program, name, sizes), due)
                        self.assertEqual(cells_at(program, name, sizes), list(itertools.product(*map(range, due))))
                    for nest, (loops, _) in enumerate(program[2]):
                        due = list(itertools.product(*[range(count_of(count, named)) for _, count in loops]))
                        self.assertEqual(rounds_at(program, nest, sizes), due)

    def test_by_hand(self):
        self.assertEqual(dims_at(program=LINE, name="raw", sizes=(4,)), (6,))
        self.assertEqual(cells_at(program=LINE, name="flag", sizes=(4,)), [(0, 0), (0, 1), (0, 2)])
        self.assertEqual(rounds_at(program=LINE, nest=0, sizes=(3,)), [(0,), (1,), (2,)])
        self.assertEqual(rounds_at(LINE, 2, (9,)), [])
        self.assertEqual(rounds_at(PRODUCT, 0, (1, 2, 2)), [(0, 0, 0), (0, 0, 1), (0, 1, 0), (0, 1, 1)])

    def test_sizes_are_refused_ahead_of_names_and_nests(self):
        for call in (dims_at, cells_at, rounds_at):
            refused(self, BadSizes, "about", 2, call, PRODUCT, None, (1, 1, 13))
            refused(self, BadSizes, "about", None, call, PRODUCT, None, [1, 1, 1])
        for thing in ODD_THINGS + ["z"]:
            refused(self, NoSuch, "name", thing, dims_at, PRODUCT, thing, (1, 1, 1))
            refused(self, NoSuch, "name", thing, cells_at, PRODUCT, thing, (1, 1, 1))


if __name__ == "__main__":
    unittest.main()
