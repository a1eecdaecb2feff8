"""[10] to [12]: the plain walk, gone on with."""

import random
import unittest

from lanewright.errors import BadGiven, BadNumber, BadProgram, BadSizes, NoSuch
from lanewright.plain import tale
from lanewright.walk import Walk
from tests.helper import CROSS, LINE, ODD_THINGS, PRODUCT, PROGRAMS, Kept, chance_program, given_for, refused, slow_walk, with_part

ODD_MANY = [None, True, False, -1, 100001, 10 ** 3999, "1", b"1", (1,), [1], {}, object(), int]
GIVEN = ((7, 8, 65535, 3),)


def stand_after(program, sizes, given, rows):
    """The STAND that some rows of the TALE make of that at the beginning, reckoned anew."""
    beginning = slow_walk(with_part(program, (2,), ()), sizes, given)[2][0]
    spots = {}
    named = dict(zip(program[0], sizes))
    for (name, words), (_, _, dims) in zip(beginning, program[1]):
        sides = [count[0] + sum(times * named[size] for size, times in count[1]) for count in dims]
        cells = [(k,) for k in range(sides[0])] if len(sides) == 1 else [(k, j) for k in range(sides[0]) for j in range(sides[1])]
        spots[name] = dict(zip(cells, words))
    for _, _, _, array, cell, word in rows:
        spots[array][cell] = word
    return spots, tuple((name, tuple(spots[name].values())) for name, _, _ in program[1])


class Going(unittest.TestCase):
    def look(self, walk, program, sizes, given, rows, at):
        spots, stand = stand_after(program, sizes, given, rows[:at])
        self.assertEqual(walk.at(), at)
        self.assertIs(walk.is_over(), at == len(rows))
        self.assertEqual(walk.stand(), stand)
        for name in spots:
            for cell in list(spots[name])[:3] + list(spots[name])[-2:]:
                self.assertEqual(walk.cell(name, cell), spots[name][cell])
        self.assertEqual(len(walk), len(rows))
        self.assertEqual((repr(walk), str(walk)), (f"Walk({at})",) * 2)

    def test_by_none_one_some_all_and_more(self):
        for program in PROGRAMS + [chance_program(seed) for seed in range(25)]:
            sizes = (3, 2, 4)[:len(program[0])]
            given = given_for(program, sizes)
            with Kept(self, program, sizes, given):
                rows = list(slow_walk(program, sizes, given)[0])
                walk = Walk(program, sizes, given)
                at = 0
                chance = random.Random(7)
                for _ in range(25):
                    many = chance.choice([0, 1, 1, 2, 5, len(rows), len(rows) - at, at, len(rows) + 1, 100000])
                    if chance.choice([True, False, True]):
                        self.assertEqual(walk.step(many), rows[at:at + many])
                        at = min(len(rows), at + many)
                    else:
                        self.assertEqual(walk.back(many), rows[max(0, at - many):at][::-1])
                        at = max(0, at - many)
                    self.look(walk, program, sizes, given, rows, at)

    def test_without_a_number_it_goes_by_one(self):
        walk = Walk(program=LINE, sizes=(2,), given=GIVEN)
        rows = list(tale(LINE, (2,), GIVEN))
        self.assertEqual(walk.back(), [])
        self.assertEqual(walk.step(), rows[:1])
        self.assertEqual(walk.step(many=2), rows[1:3])
        self.assertEqual(walk.back(), rows[2:3])
        self.assertEqual(walk.back(many=2), [rows[1], rows[0]])
        self.assertEqual(walk.step(100000), rows)
        self.assertEqual(walk.step(), [])
        self.assertIs(walk.is_over(), True)
        self.assertEqual(walk.cell(array="sums", cell=(0,)), 24)

    def test_a_walk_without_stores(self):
        program = with_part(LINE, (2,), (LINE[2][2],))
        walk = Walk(program, (1,), ((0, 0, 0),))
        self.assertEqual((len(walk), walk.at(), walk.is_over(), walk.step(5), walk.back(5)), (0, 0, True, [], []))
        self.assertEqual(repr(walk), "Walk(0)")

    def test_what_is_told_stays_as_it_was(self):
        walk = Walk(LINE, (2,), GIVEN)
        told = walk.step(3)
        before = list(told)
        stand = walk.stand()
        told.clear()
        self.assertEqual(walk.at(), 3)
        taken = walk.back(2)
        self.assertEqual(taken, before[:0:-1])
        taken.append(None)
        self.assertEqual(walk.step(2), before[1:])
        self.assertEqual(walk.stand(), stand)
        walk.step(9)
        self.assertEqual(stand, stand_after(LINE, (2,), GIVEN, before)[1])


class Twins(unittest.TestCase):
    def test_a_twin_stands_so_and_goes_on_by_itself(self):
        walk = Walk(LINE, (2,), GIVEN)
        rows = list(tale(LINE, (2,), GIVEN))
        for at in range(len(rows) + 1):
            twin = walk.walk_twin()
            self.assertIs(type(twin), Walk)
            self.assertIsNot(twin, walk)
            self.assertEqual(twin, walk)
            self.assertEqual((twin.at(), twin.stand(), twin.is_over(), len(twin)), (walk.at(), walk.stand(), walk.is_over(), len(walk)))
            stand = walk.stand()
            self.assertEqual(twin.back(2), rows[max(0, at - 2):at][::-1])
            self.assertEqual((walk.at(), walk.stand()), (at, stand))
            twin.step(100)
            self.assertEqual((walk.at(), walk.stand()), (at, stand))
            stand = twin.stand()
            self.assertEqual(walk.step(), rows[at:at + 1])
            self.assertEqual((twin.at(), twin.stand()), (len(rows), stand))


class Equal(unittest.TestCase):
    def test_equal_if_all_four_are(self):
        walk = Walk(LINE, (2,), GIVEN)
        same = Walk(LINE, (2,), ((7, 8, 65535, 3),))
        self.assertTrue(walk == same)
        self.assertFalse(walk != same)
        same.step(2)
        self.assertFalse(walk == same)
        walk.step(3)
        self.assertTrue(walk != same)
        walk.back()
        self.assertTrue(walk == same)

    def test_unlike_ones(self):
        walk = Walk(LINE, (2,), GIVEN)
        self.assertNotEqual(walk, Walk(LINE, (2,), ((7, 8, 65535, 4),)))
        self.assertNotEqual(walk, Walk(LINE, (3,), (GIVEN[0] + (1,),)))
        self.assertNotEqual(walk, Walk(with_part(LINE, (2, 0, 1, 1, 3), ("num", 0)), (2,), GIVEN))
        one = (("m", "n"), (("a", "own", (("", ()),)),), ())
        one = with_part(one, (1, 0, 2, 0), (12, ()))
        one = with_part(one, (2,), (((("i", (1, ())),), (("put", "a", (("i", 0),), ("num", 1)),)),))
        self.assertNotEqual(Walk(one, (1, 2), ()), Walk(one, (2, 1), ()))
        self.assertEqual(Walk(one, (1, 2), ()), Walk(one, (1, 2), ()))

    def test_to_what_is_no_walk_none_is(self):
        walk = Walk(LINE, (2,), GIVEN)
        for thing in ODD_THINGS + [walk.stand(), "Walk(0)"]:
            self.assertFalse(walk == thing)
            self.assertTrue(walk != thing)


class Refused(unittest.TestCase):
    def test_making(self):
        for thing in ODD_THINGS:
            if not isinstance(thing, tuple) or len(thing) != 3:
                refused(self, BadProgram, "place", None, Walk, thing, None, None)
        refused(self, BadProgram, "place", ("nest", 0, None), Walk, with_part(LINE, (2, 0), 5), (13,), None)
        refused(self, BadSizes, "about", None, Walk, PRODUCT, (1, 1), None)
        refused(self, BadSizes, "about", 2, Walk, PRODUCT, (1, 1, 0), None)
        refused(self, BadGiven, "about", None, Walk, PRODUCT, (1, 1, 1), [(1,), (1,)])
        refused(self, BadGiven, "about", 1, Walk, PRODUCT, (1, 1, 1), ((1,), (65536,)))

    def test_what_is_refused_changes_nothing(self):
        walk = Walk(CROSS, (2, 2), ((3, 65535),))
        walk.step(5)
        twin = walk.walk_twin()
        for thing in ODD_MANY:
            refused(self, BadNumber, "about", thing, walk.step, thing)
            refused(self, BadNumber, "about", thing, walk.back, thing)
            refused(self, BadNumber, "about", thing, walk.back, many=thing)
        for thing in ODD_THINGS + ["p", "m", ("g",)]:
            refused(self, NoSuch, "name", thing, walk.cell, thing, None)
        for thing in ODD_THINGS + [0, (0,), (0, 0, 0), [0, 0], (11, 13), (13, 0), (0, -1), (True, 0), (0, "0")]:
            refused(self, BadNumber, "about", thing, walk.cell, "g", thing)
        self.assertEqual(walk, twin)
        self.assertEqual(walk.stand(), twin.stand())
        self.assertEqual(walk.step(3), twin.step(3))
        self.assertEqual(walk.back(100), twin.back(100))


if __name__ == "__main__":
    unittest.main()
