"""[50]: what is a KERNEL, and its rows by their PATHS."""

import itertools
import unittest

from lanewright import kernels
from lanewright.errors import BadKernel, BadProgram, NoSuch
from lanewright.kernels import need_kernel, row_at, rows_by_path
from tests.helper import (
    HEAD, NEARS, ODD_NUMBERS, ODD_THINGS, Kept, Touchy, by, chance_kernel, deep_list, fixed, kernel, num, refused, with_part,
)

SET = ("set", 0, num(1))
FENCE = ("fence",)


def loop(*rows):
    return ("loop", 1, num(0), num(2), rows)


def when(*rows):
    return ("if", num(1), rows)


def paths_of(rows, above=()):
    """All PATHS, each ahead of those within it, and the rows there."""
    found = []
    for number, row in enumerate(rows):
        found.append((above + (number,), row))
        if row[0] in ("loop", "if"):
            found += paths_of(row[-1], above + (number,))
    return found


def steps_to(path):
    """Where the row of a PATH stands in the tuples of a KERNEL."""
    steps = [3]
    for number in path:
        steps += [number, -1]
    return tuple(steps[:-1])


class Case(unittest.TestCase):
    def good(self, thing):
        with Kept(self, thing):
            self.assertIsNone(need_kernel(*HEAD, thing))

    def bad(self, place, thing):
        refused(self, BadKernel, "place", place, need_kernel, *HEAD, thing)


class Forms(Case):
    def test_constants(self):
        self.assertEqual((kernels.MOST_ROWS, kernels.REGISTERS), (400, 32))

    def test_good_ones(self):
        for seed in range(200):
            self.good(chance_kernel(seed))
        self.good(kernel())
        self.good(kernel(loop(), when()))
        self.assertIsNone(need_kernel(sizes=HEAD[0], arrays=HEAD[1], kernel=kernel(SET)))

    def test_heads_ahead(self):
        for thing in ODD_THINGS + [(1,), ["m"]]:
            refused(self, BadProgram, "place", ("sizes",), need_kernel, thing, None, None)
        refused(self, BadProgram, "place", ("array", None), need_kernel, HEAD[0], (), None)
        refused(self, BadProgram, "place", ("array", 2), need_kernel, HEAD[0], with_part(HEAD[1], (2, 0), "gift"), None)

    def test_none_of_no_tuple_of_four(self):
        for thing in ODD_THINGS + [kernel()[:3], kernel() + ((),), list(kernel()), deep_list(kernel(SET))]:
            if not isinstance(thing, tuple) or len(thing) != 4:
                self.bad(None, thing)
        self.bad("lanes", (Touchy(),) * 4)

    def test_lanes(self):
        for lanes in ODD_NUMBERS + [0, 9]:
            self.bad("lanes", (lanes, None, None, None))
        for lanes in range(1, 9):
            self.good(kernel(SET, lanes=lanes))

    def test_count(self):
        for count in ODD_THINGS + [5, (1,), (21, ()), (0, (("k", 1),)), (0, (("m", 4),)), (0, (("n", 1), ("m", 1))), fixed(-1), by("m", 1, -2),
                                   by("m", 3, -4), [0, ()]]:
            self.bad("count", (8, count, None, None))
        for count in [fixed(0), fixed(20), by("m", 1, -1), by("n", 3, -3), (20, (("m", 3), ("n", 3)))]:
            self.good(kernel(SET, count=count))

    def test_near(self):
        one = ("desk", (fixed(3),))
        for nears in ODD_THINGS + [
                one, [one], (one, one), (one, ("gift", (fixed(1),))), (("told", (fixed(1),)),), (("desk", "own", (fixed(3),)),), (("desk",),),
                (("desk", fixed(3)),), (("desk", [fixed(3)]),), (("desk", ()),), (("desk", (fixed(1),) * 3),), (("desk", (fixed(0),)),),
                (("desk", (by("m", 1, -1),)),), (("desk", (by("k"),)),), (("Desk", (fixed(1),)),), (("desks" * 2, (fixed(1),)),),
                tuple((name, (fixed(1),)) for name in "abcdefg"), (one, None), (Touchy(), one), ((Touchy(), (fixed(1),)),), (("desk", Touchy()),),
                (("desk", (fixed(3),), 0),), (("desk", (fixed(3),), ()),),
                (one, ("big", ((4, (("m", 2), ("n", 3))), (5, (("m", 2), ("n", 3)))))),
                (list(one),)]:
            if isinstance(nears, tuple) and len(nears) == 0:
                continue
            self.bad("near", (8, fixed(3), nears, None))
        self.good(kernel(SET, nears=()))
        # The NAME of a size may be that of a near array, and of one of ARRAYS, too.
        for nears in [(one,), tuple((name, (fixed(1),)) for name in "abcdef"), (("m", (by("m"),)),), (("a", ((4, (("m", 2), ("n", 3))),) * 2),)]:
            self.good(kernel(SET, nears=nears))

    def test_rows_that_are_no_tuple(self):
        for rows in ODD_THINGS + [[SET], SET[0]]:
            if not isinstance(rows, tuple):
                self.bad((), (8, fixed(3), NEARS, rows))


class Rows(Case):
    def each(self, rows):
        """Each of these rows is none, wherever it stands."""
        for row in rows:
            self.bad((1,), kernel(SET, row))
            self.bad((0, 0, 1), kernel(when(loop(SET, row, None))))

    def all_good(self, rows):
        for row in rows:
            self.good(kernel(SET, row))
            self.good(kernel(loop(when(row, SET))))

    def spoilt(self, row, places, things):
        """A row with each of these things in each of these places."""
        return [with_part(row, (place,), thing) for place in places for thing in things]

    NO_REGISTERS = ODD_NUMBERS + [32, "r3", ("reg", 3)]
    NO_OPERANDS = ODD_THINGS + [
        0, 5, "lane", ("num",), ("num", 65536), ("num", -1), ("num", True), ("num", 1, 1), ["num", 1], ("reg",), ("reg", 32), ("reg", -1),
        ("reg", None), ("lane", 0), ("lanes",), ("group", 0), ("size",), ("size", "k"), ("size", 0), ("size", "desk"), ("at", 0), ("loop", "i"),
        (("lane",),), ("", 0), (Touchy(), 0), ("num", Touchy()), ("reg", Touchy()), ("size", Touchy()), (b"lane",), ("lane", "group"),
        ("lane", "m"), ("group", "m"), ("sizes", "m"), ("", "m"), ("num", "m"), ("reg", "m"), (Touchy(), "m")]
    OPERANDS = [("num", 0), ("num", 65535), ("reg", 0), ("reg", 31), ("lane",), ("group",), ("size", "m"), ("size", "n")]

    def test_no_rows_at_all(self):
        words = "set do load store loop if".split()
        for row in ODD_THINGS + [(word,) for word in words] + [(word, 0) for word in words] + [(word,) + (0,) * 5 for word in words] + [("sets", 0, num(1)), (b"set", 0, num(1)), (("set",), 0), ("", 0), ("num", 1), ("put", "a", ()), "fence", ["fence"]]:
            self.bad((0,), kernel(row))
            self.bad((1, 2), kernel(SET, loop(SET, SET, row)))

    def test_set(self):
        self.all_good([("set", reg, a) for reg in (0, 31) for a in self.OPERANDS])
        self.each([("set",), ("set", 0), ("set", 0, num(1), 0), list(SET)])
        self.each(self.spoilt(SET, [1], self.NO_REGISTERS) + self.spoilt(SET, [2], self.NO_OPERANDS))

    def test_do(self):
        row = ("do", "add", 3, ("lane",), ("reg", 4))
        ops = "add sub mul min max less div rest".split()
        self.all_good([("do", op, reg, a, a) for op in ops for reg in (0, 31) for a in self.OPERANDS])
        self.each([row[:4], row + (0,), list(row)] + self.spoilt(row, [1], ODD_THINGS + ["more", "mod", "put", 0]))
        self.each(self.spoilt(row, [2], self.NO_REGISTERS) + self.spoilt(row, [3, 4], self.NO_OPERANDS))

    def test_load_and_store(self):
        for name, many in [("gift", 1), ("told", 2), ("mine", 1), ("desk", 1), ("gifts", 2)]:
            for operand in self.OPERANDS:
                spots = (operand,) * many
                self.all_good([("load", 31, name, spots), ("store", name, spots, operand)])
            spots = (("lane",),) * many
            for wrong in [(("lane",),) * (3 - many), (), spots + (num(0),) * 2, list(spots), None, "x", Touchy()] + [
                    with_part(spots, (place,), thing) for place in range(many) for thing in self.NO_OPERANDS]:
                self.each([("load", 31, name, wrong)])
                self.each([("store", name, wrong, num(1))])
        load, store = ("load", 2, "gift", (num(0),)), ("store", "gift", (num(0),), ("reg", 1))
        self.each([load[:3], load + ((0, 0), 0), list(load)] + self.spoilt(load, [1], self.NO_REGISTERS))
        self.each([store[:3], store + ((0, 0), 0), list(store)] + self.spoilt(store, [3], self.NO_OPERANDS))
        names = ODD_THINGS + ["m", "none", "gif", 0, ("gift",)]
        self.each(self.spoilt(load, [2], names))
        self.each(self.spoilt(store, [1], names))

    def test_sources(self):
        load, store = ("load", 2, "gift", (num(0),)), ("store", "gift", (num(0),), ("reg", 1))
        for nest, step in itertools.product(range(5), [None, 0, 1, 2, 3]):
            self.all_good([load + ((nest, step),), store + ((nest, step),)])
        for source in ODD_THINGS + [(0,), (0, 0, 0), [0, 0], (5, 0), (-1, 0), (None, 0), (True, 0), (0, 4), (0, -1), (0, False), ("0", 0),
                                    (Touchy(), 0), (0, Touchy()), (0, "-")]:
            self.each([load + (source,)])
            self.each([store + (source,)])
        self.bad((0,), kernel(SET + ((0, 0),)))
        self.bad((0,), kernel(FENCE + ((0, 0),)))

    def test_loop_and_if(self):
        row = ("loop", 3, ("lane",), ("reg", 4), ())
        self.all_good([("loop", reg, a, a, ()) for reg in (0, 31) for a in self.OPERANDS] + [("if", a, ()) for a in self.OPERANDS])
        no_rows = [thing for thing in ODD_THINGS + [[SET], "", 0] if not isinstance(thing, tuple)]
        self.each([row[:4], row + ((),), list(row)] + self.spoilt(row, [1], self.NO_REGISTERS) + self.spoilt(row, [2, 3], self.NO_OPERANDS))
        self.each(self.spoilt(row, [4], no_rows))
        self.each([("if",), ("if", num(1)), ("if", num(1), (), ()), ["if", num(1), ()]])
        self.each(self.spoilt(when(), [1], self.NO_OPERANDS) + self.spoilt(when(), [2], no_rows))

    def test_fence(self):
        self.all_good([FENCE])
        self.each([("fence", 0), ("fence", ()), ["fence"], "fence"])


class Places(Case):
    def test_each_row_is_told_by_its_path(self):
        many = 0
        for seed in range(120):
            thing = chance_kernel(seed)
            there = paths_of(thing[3])
            for path, _ in there:
                for odd in [None, (), ("set", 0), Touchy(), ("fence", 1)]:
                    self.bad(path, with_part(thing, steps_to(path), odd))
                many += 1
            for (first, _), (second, row) in itertools.combinations(there[:6], 2):
                spoilt = with_part(with_part(thing, steps_to(second), ("fence", *row)), steps_to(first), None)
                self.bad(first, spoilt)
        self.assertGreater(many, 500)

    def test_a_row_ahead_of_those_within_it(self):
        self.bad((0,), kernel(("loop", 32, num(0), num(1), (None,)), None))
        self.bad((0, 0), kernel(loop(None), None))
        self.bad((0, 1, 0), kernel(loop(SET, when(None), None), None))
        self.bad((1,), kernel(loop(SET, when()), None))

    def test_paths_as_long_as_may_be(self):
        for wrap in (loop, when):
            rows = SET
            for _ in range(5):
                rows = wrap(rows)
            self.good(kernel(rows))
            self.bad((0,) * 7, kernel(wrap(rows)))
            self.bad((1,) + (0,) * 6, kernel(SET, wrap(rows), None))
            lower = wrap(SET)
            for _ in range(4):
                lower = wrap(lower, SET)
            self.good(kernel(SET, lower))
            self.bad((2, 0, 0, 0, 0, 0, 0), kernel(SET, SET, wrap(wrap(wrap(wrap(wrap(wrap(SET, None), None), None))))))
            empty = wrap()
            for _ in range(5):
                empty = wrap(empty)
            self.good(kernel(empty))
        deep = ()
        for _ in range(40):
            deep = (when(*deep),)
        self.bad((0,) * 7, kernel(*deep))

    def test_as_many_rows_as_may_be(self):
        self.good(kernel(*[SET] * 400))
        self.bad((400,), kernel(*[SET] * 401))
        self.bad((400,), kernel(*[SET] * 400, None))
        self.bad((399,), kernel(*[SET] * 399, None, None))
        tens = loop(*[SET] * 9)
        self.good(kernel(*[tens] * 40))
        self.bad((40,), kernel(*[tens] * 40, SET))
        self.bad((40,), kernel(*[tens] * 40, None))
        self.bad((39, 9), kernel(*[tens] * 39, loop(*[SET] * 10)))
        self.bad((39, 8, 0), kernel(*[tens] * 39, loop(*[SET] * 8, when(SET))))
        self.bad((0, 399), kernel(loop(*[SET] * 500)))


class Paths(unittest.TestCase):
    def test_by_hand(self):
        thing = kernel(SET, loop(FENCE, when(SET)), when())
        self.assertEqual(list(rows_by_path(kernel=thing).items()), [
            ((0,), SET), ((1,), loop(FENCE, when(SET))), ((1, 0), FENCE), ((1, 1), when(SET)), ((1, 1, 0), SET), ((2,), when())])
        self.assertEqual(rows_by_path(kernel()), {})
        self.assertEqual(row_at(kernel=thing, path=(1, 1, 0)), SET)
        self.assertEqual(row_at(thing, (2,)), when())

    def test_against_another_reckoning(self):
        for seed in range(120):
            thing = chance_kernel(seed)
            with Kept(self, thing):
                told = rows_by_path(thing)
            self.assertEqual(list(told.items()), paths_of(thing[3]))
            self.assertEqual(list(told), sorted(told))
            for path in told:
                self.assertEqual(row_at(thing, path), told[path])
            told.clear()
            self.assertEqual(len(rows_by_path(thing)), len(paths_of(thing[3])))

    def test_no_such_paths(self):
        thing = kernel(SET, loop(FENCE, when(SET)), when())
        for path in ODD_THINGS + [(3,), (-1,), (0, 0), (1, 2), (1, 1, 1), (2, 0), [0], (True,), (False,), (1, False), ("0",), 0, (1, 1, 0, 0),
                                  (10 ** 3999,), (1, Touchy()), ([],), (0,) * 1000]:
            refused(self, NoSuch, "name", path, row_at, thing, path)


if __name__ == "__main__":
    unittest.main()
