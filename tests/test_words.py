"""[1], [3]: words, names, and what is reckoned."""

import unittest

from lanewright import words
from lanewright.errors import NoSuch
from lanewright.words import is_name, is_whole, reckoned
from tests.helper import ODD_THINGS, refused

EDGES = [0, 1, 2, 255, 256, 257, 32767, 32768, 65534, 65535]


class Constants(unittest.TestCase):
    def test_constants(self):
        self.assertEqual(words.MOST_SIZE, 12)
        self.assertEqual(words.WORDS, 65536)
        self.assertEqual(words.OPS, ("add", "sub", "mul", "min", "max"))


class Whole(unittest.TestCase):
    def test_words_are_meant_without_bounds(self):
        for thing, told in [(0, True), (65535, True), (-1, False), (65536, False), (77, True)]:
            self.assertIs(is_whole(thing), told)

    def test_bounds_one_by_one_and_both(self):
        self.assertIs(is_whole(-3, least=-3), True)
        self.assertIs(is_whole(-4, least=-3), False)
        self.assertIs(is_whole(65535, least=-3), True)
        self.assertIs(is_whole(65536, least=-3), False)
        self.assertIs(is_whole(9, most=9), True)
        self.assertIs(is_whole(10, most=9), False)
        self.assertIs(is_whole(-1, most=9), False)
        for thing in range(-5, 15):
            self.assertIs(is_whole(thing, least=2, most=7), 2 <= thing <= 7)
        self.assertIs(is_whole(70000, least=65536, most=10 ** 3999), True)
        self.assertIs(is_whole(5, least=6, most=5), False)

    def test_anything(self):
        for thing in ODD_THINGS + ["3", (3,), [3], 3j]:
            self.assertIs(is_whole(thing), False)
            self.assertIs(is_whole(thing, least=1, most=12), False)
        self.assertIs(is_whole(thing=4), True)

    def test_bounds_are_handed_in_by_name_alone(self):
        with self.assertRaises(TypeError):
            is_whole(1, 0, 5)

    def test_true_and_false_are_none(self):
        self.assertIs(is_whole(True), False)
        self.assertIs(is_whole(False), False)
        self.assertIs(is_whole(True, least=1, most=1), False)


class Names(unittest.TestCase):
    def test_one_to_eight_small_letters(self):
        for thing in ["a", "z", "ab", "abcdefgh", "zzzzzzzz"]:
            self.assertIs(is_name(thing), True)
        for thing in ["", "abcdefghi", "A", "aB", "a1", "1", "_", "a_", "a ", " a", "a\n", "a.b", "a" * 20000, "`", "{"]:
            self.assertIs(is_name(thing), False)
        for thing in ["\u00e9", "\u00df", "\u0430", "\u00aa"]:
            self.assertIs(is_name(thing), False)

    def test_anything(self):
        for thing in ODD_THINGS + [5, ("a",), ["a"], b"a"]:
            self.assertIs(is_name(thing), False)
        self.assertIs(is_name(thing="ok"), True)


class Reckoned(unittest.TestCase):
    def test_all_ops_at_the_edges(self):
        told = {
            "add": lambda one, other: (one + other) % 65536,
            "sub": lambda one, other: (one - other + 65536) % 65536,
            "mul": lambda one, other: (one * other) % 65536,
            "min": lambda one, other: one if one < other else other,
            "max": lambda one, other: one if one > other else other,
        }
        for op in told:
            for one in EDGES:
                for other in EDGES:
                    self.assertEqual(reckoned(op, one, other), told[op](one, other), (op, one, other))

    def test_by_hand(self):
        self.assertEqual(reckoned("add", 65535, 1), 0)
        self.assertEqual(reckoned("sub", 0, 1), 65535)
        self.assertEqual(reckoned("mul", 65535, 65535), 1)
        self.assertEqual(reckoned("mul", 256, 256), 0)
        self.assertEqual(reckoned("min", 65535, 0), 0)
        self.assertEqual(reckoned("max", 65535, 0), 65535)
        self.assertEqual(reckoned(op="sub", one=5, other=3), 2)

    def test_no_such_op(self):
        for thing in ODD_THINGS + ["div", "less", "num", "at", "ADD", "addsub", 0, ("add",), ["add"], ("add", "sub")]:
            refused(self, NoSuch, "name", thing, reckoned, thing, 1, 2)


if __name__ == "__main__":
    unittest.main()
