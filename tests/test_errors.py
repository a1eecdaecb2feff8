"""[0]: the errors, what they stand under, and what they are made of."""

import unittest

from lanewright import errors
from tests.helper import ODD_THINGS, Touchy

MADE_BY = {
    "BadProgram": (errors.LaneError, ("place",)),
    "BadSizes": (errors.LaneError, ("about",)),
    "BadGiven": (errors.LaneError, ("about",)),
    "BadTurn": (errors.LaneError, ("about",)),
    "BadPlan": (errors.LaneError, ("about",)),
    "BadKernel": (errors.LaneError, ("place",)),
    "BadPaper": (errors.LaneError, ("about",)),
    "BadLine": (errors.LaneError, ("row", "word")),
    "BadSchedule": (errors.LaneError, ("about",)),
    "NoSuch": (errors.Lack, ("name",)),
    "Unsafe": (errors.Cant, ("meeting",)),
    "Unfit": (errors.Cant, ("about",)),
    "Full": (errors.Cant, ("most",)),
    "BadKind": (TypeError, ("wanted",)),
    "BadNumber": (IndexError, ("about",)),
}
MADE_OF_TEXT = {
    "LaneError": ValueError,
    "Lack": LookupError,
    "Gone": errors.Lack,
    "Cant": RuntimeError,
}


class Standing(unittest.TestCase):
    def test_each_stands_straight_under_its_own_and_no_other(self):
        for name, (above, _) in MADE_BY.items():
            self.assertEqual(getattr(errors, name).__bases__, (above,), name)
        for name, above in MADE_OF_TEXT.items():
            self.assertEqual(getattr(errors, name).__bases__, (above,), name)

    def test_no_other_errors_are_there(self):
        there = {name for name, thing in vars(errors).items() if isinstance(thing, type)}
        self.assertEqual(there, set(MADE_BY) | set(MADE_OF_TEXT))

    def test_python_kinds_catch_them(self):
        for above, made in [
            (ValueError, errors.BadLine(1, 2)), (LookupError, errors.NoSuch("a")), (LookupError, errors.Gone("x")),
            (RuntimeError, errors.Full(3)), (TypeError, errors.BadKind("list")), (IndexError, errors.BadNumber(4)),
        ]:
            with self.assertRaises(above):
                raise made
        self.assertFalse(issubclass(errors.BadKind, errors.LaneError))
        self.assertFalse(issubclass(errors.BadNumber, errors.Lack))


class Fields(unittest.TestCase):
    def test_the_very_things_in_order(self):
        for name, (_, fields) in MADE_BY.items():
            for thing in ODD_THINGS:
                things = [thing, [thing]][:len(fields)]
                made = getattr(errors, name)(*things)
                for field, handed in zip(fields, things):
                    self.assertIs(getattr(made, field), handed, name)
                self.assertEqual(sorted(vars(made)), sorted(fields), name)

    def test_as_many_as_there_are_fields(self):
        for name, (_, fields) in MADE_BY.items():
            with self.assertRaises(TypeError):
                getattr(errors, name)()
            with self.assertRaises(TypeError):
                getattr(errors, name)(*range(len(fields) + 1))

    def test_all_can_be_shown_whatever_they_hold(self):
        for name, (_, fields) in MADE_BY.items():
            made = getattr(errors, name)(*[Touchy() for _ in fields])
            self.assertTrue(str(made))
            self.assertTrue(repr(made))

    def test_made_of_a_text(self):
        for name in MADE_OF_TEXT:
            self.assertEqual(str(getattr(errors, name)("some text")), "some text")


if __name__ == "__main__":
    unittest.main()
