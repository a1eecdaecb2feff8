"""[1]: COUNTS."""

import itertools
import random
import unittest

from lanewright.counts import at_most, count_at, greatest_of, is_count, least_of, worst_sizes
from tests.helper import ODD_THINGS, Kept, count_of

NAMES = ["m", "n", "k"]
BEST = (-20, (("k", 1), ("m", 2), ("n", 3)))


def chance_count(chance, names):
    some = sorted(chance.sample(list(names), chance.randint(0, min(3, len(names)))))
    return (chance.randint(-20, 20), tuple((name, chance.randint(1, 3)) for name in some))


class Forms(unittest.TestCase):
    def good(self, thing, names):
        for rows in (list(names), tuple(names), list(reversed(names))):
            with Kept(self, thing, rows):
                self.assertIs(is_count(thing, rows), True, thing)

    def bad(self, thing, names):
        for rows in (list(names), tuple(names), list(reversed(names))):
            with Kept(self, rows):
                self.assertIs(is_count(thing, rows), False, thing)

    def test_good_ones(self):
        for thing in [(0, ()), (-20, ()), (20, ()), (0, (("m", 1),)), (3, (("m", 3), ("n", 1))), BEST]:
            self.good(thing, NAMES)
        self.good((7, ()), [])
        self.good((7, (("m", 2),)), ["m"])
        self.good((7, (("m", 2),)), ["zz", "m", "a"])

    def test_bounds_of_c_and_a(self):
        for fixed in (-21, 21, 10 ** 3999, -(10 ** 3999), True, False, None, "1", (1,)):
            self.bad((fixed, ()), NAMES)
        for times in (0, 4, -1, True, None, "1", (1,), 10 ** 3999):
            self.bad((0, (("m", times),)), NAMES)

    def test_order_of_terms(self):
        self.bad((0, (("n", 1), ("m", 1))), NAMES)
        self.bad((0, (("m", 1), ("m", 1))), NAMES)
        self.bad((0, (("m", 1), ("m", 2))), NAMES)
        self.bad((0, (("m", 1), ("n", 1), ("k", 1))), NAMES)
        self.bad((0, (("k", 1), ("n", 1), ("m", 1))), NAMES)

    def test_names_that_are_not_there(self):
        self.bad((0, (("x", 1),)), NAMES)
        self.bad((0, (("m", 1),)), [])
        self.bad((0, (("m", 1), ("x", 1))), NAMES)
        self.bad((0, (("", 1),)), NAMES)

    def test_lengths_and_kinds(self):
        for thing in [
            (0,), (0, (), ()), (0, [("m", 1)]), [0, ()], (0, (["m", 1],)), (0, (("m",),)), (0, (("m", 1, 1),)), (0, None),
            (0, "m"), (0, ("m", 1)), (0, {}), ((), 0), (0, (("a", 1), ("k", 1), ("m", 1), ("n", 1))), (0, ((1, "m"),)),
        ]:
            self.bad(thing, NAMES + ["a"])

    def test_anything(self):
        for thing in ODD_THINGS:
            self.bad(thing, NAMES)
            self.bad((0, (thing,)), NAMES)
            self.bad((0, ((thing, 1),)), NAMES)
            self.bad((0, (("m", thing),)), NAMES)
            if not isinstance(thing, tuple) or len(thing) > 0:
                self.bad((0, thing), NAMES)
            if not isinstance(thing, int) or thing in (True, False) or abs(thing) > 20:
                self.bad((thing, ()), NAMES)
        self.assertIs(is_count(thing=(0, ()), names=()), True)


class Worth(unittest.TestCase):
    def test_by_hand(self):
        sizes = {"k": 5, "m": 1, "n": 12, "rest": 9}
        with Kept(self, sizes, BEST):
            self.assertEqual(count_at(BEST, sizes), -20 + 5 + 2 + 36)
        self.assertEqual(count_at((-3, ()), {}), -3)
        self.assertEqual(count_at(count=(1, (("m", 2),)), sizes={"m": 6}), 13)
        self.assertEqual(least_of(BEST), -14)
        self.assertEqual(greatest_of(BEST), 52)
        self.assertEqual(least_of(count=(4, ())), 4)
        self.assertEqual(greatest_of(count=(4, ())), 4)

    def test_least_and_greatest_bound_all(self):
        chance = random.Random(1)
        for _ in range(40):
            count = chance_count(chance, ["m", "n"])
            worths = [count_of(count, dict(zip(["m", "n"], sizes))) for sizes in itertools.product(range(1, 13), repeat=2)]
            self.assertEqual(least_of(count), min(worths))
            self.assertEqual(greatest_of(count), max(worths))
            self.assertEqual(count_at(count, {"m": 4, "n": 11}), count_of(count, {"m": 4, "n": 11}))


class Against(unittest.TestCase):
    def look(self, count, other, names):
        due = None
        for sizes in itertools.product(range(1, 13), repeat=len(names)):
            named = dict(zip(names, sizes))
            if count_of(count, named) > count_of(other, named):
                due = sizes
                break
        with Kept(self, count, other, names):
            self.assertIs(at_most(count, other), due is None, (count, other))
            self.assertEqual(worst_sizes(count, other, names), due, (count, other, names))

    def test_all_sizes_of_none_one_and_two(self):
        chance = random.Random(2)
        for _ in range(300):
            for names in ([], ["m"], ["m", "n"], ("n", "m")):
                count = chance_count(chance, names)
                other = chance_count(chance, names)
                self.look(count, other, names)
                self.look(count, count, names)

    def test_all_sizes_of_three_in_any_order(self):
        chance = random.Random(3)
        for _ in range(40):
            names = tuple(chance.sample(NAMES, 3))
            self.look(chance_count(chance, names), chance_count(chance, names), names)

    def test_close_ones(self):
        for more in range(-3, 4):
            self.look((more, (("m", 1), ("n", 2))), (0, (("m", 2), ("n", 1))), ("m", "n"))
            self.look((more, (("m", 3),)), (20, (("m", 1),)), ("m",))
            self.look((more, ()), (0, ()), ())

    def test_by_hand(self):
        self.assertEqual(worst_sizes((0, (("m", 1),)), (5, ()), ("n", "m")), (1, 6))
        self.assertEqual(worst_sizes(count=(0, (("m", 1),)), other=(0, (("n", 1),)), names=["m", "n"]), (2, 1))
        self.assertEqual(worst_sizes((1, ()), (0, ()), []), ())
        self.assertIsNone(worst_sizes((0, ()), (0, ()), ["m"]))
        self.assertIs(at_most(count=(0, (("m", 1),)), other=(12, ())), True)
        self.assertIs(at_most((1, (("m", 1),)), (12, ())), False)
        six = ("a", "b", "c", "d", "e", "f")
        self.assertEqual(
            worst_sizes((20, (("a", 3), ("c", 3), ("e", 3))), (20, (("b", 1), ("d", 1), ("f", 1))), six), (1, 1, 1, 1, 1, 1))
        self.assertEqual(
            worst_sizes((-20, (("b", 1), ("d", 1), ("f", 1))), (6, (("a", 1), ("c", 1), ("e", 1))), six), (1, 6, 1, 12, 1, 12))


if __name__ == "__main__":
    unittest.main()
