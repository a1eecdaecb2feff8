"""[35]: rows of TURNS, LEDGERS, and all SAFE TURNS of a nest."""

import random
import unittest

from lanewright.errors import BadNumber, BadPaper, BadProgram, BadTurn, Gone, Unsafe
from lanewright.ledger import Turning, all_safe, check_ledger
from lanewright.plain import plain_run
from lanewright.turns import is_safe, reversed_by, turn_paper, turned
from tests.helper import (
    CROSS, DEEP, LINE, MORE_PROGRAMS, ODD_NUMBERS, ODD_THINGS, PRODUCT, PROGRAMS, ROWS, Kept, Touchy, chance_program, deep_list, given_for,
    refused, with_part,
)
from tests.test_turns import many_nests, turns_of

FUSE, PART, SPLIT = ("fuse", 0), ("part", 1), ("split", 0, 1)
SOME = MORE_PROGRAMS + [chance_program(seed) for seed in range(30)]


def ledger_of(program, turns):
    rows = []
    for turn in turns:
        rows.append((turn, turn_paper(program, turn)))
        program = turned(program, turn)
    return tuple(rows), program


class Doing(unittest.TestCase):
    def look(self, turning, program, turns, tried):
        ledger, behind = ledger_of(program, turns)
        self.assertEqual(turning.now(), behind)
        self.assertEqual([turn for turn, _ in turning.ledger()], list(turns))
        self.assertIs(type(turning.ledger()), tuple)
        self.assertEqual(check_ledger(program, turning.ledger()), behind)
        self.assertEqual(turning.tried(), tuple(tried))
        self.assertIs(type(turning.tried()), tuple)
        self.assertEqual(len(turning), len(turns))
        self.assertEqual((repr(turning), str(turning)), (f"Turning({len(turns)})",) * 2)

    def test_by_hand(self):
        turning = Turning(program=LINE)
        self.look(turning, LINE, [], [])
        self.assertEqual(turning.do(turn=FUSE), turned(LINE, FUSE))
        self.look(turning, LINE, [FUSE], [("kept", FUSE)])
        fused = turned(LINE, FUSE)
        self.assertEqual(turning.do(("part", 0)), turned(fused, ("part", 0)))
        self.assertEqual(turning.back(), ("part", 0))
        self.assertEqual(turning.now(), fused)
        self.assertEqual(turning.back(), FUSE)
        self.assertEqual(turning.now(), LINE)
        self.assertRaises(Gone, turning.back)
        self.assertEqual(turning.ahead(), FUSE)
        self.assertEqual(turning.now(), fused)
        self.assertEqual(turning.ahead(), ("part", 0))
        self.assertRaises(Gone, turning.ahead)
        self.look(turning, LINE, [FUSE, ("part", 0)], [("kept", FUSE), ("kept", ("part", 0))])
        self.assertEqual(turning.ledger(), ledger_of(LINE, [FUSE, ("part", 0)])[0])

    def test_nothing_can_be_done_again_once_another_was_done(self):
        turning = Turning(LINE)
        turning.do(FUSE)
        turning.back()
        turning.do(PART)
        self.assertRaises(Gone, turning.ahead)
        self.assertEqual(turning.back(), PART)
        self.assertEqual(turning.ahead(), PART)
        self.look(turning, LINE, [PART], [("kept", FUSE), ("kept", PART)])

    def test_what_is_refused_does_nothing_but_what_is_tried_is_told(self):
        turning = Turning(ROWS)
        turning.do(SPLIT)
        turning.do(("fuse", 0))
        turning.back()
        twin = turning.turning_twin()
        for turn in ODD_THINGS + [("fuse", 9), ("split", 0, 9), ("swap", 1, (0, 0)), ("fuse", 1), Touchy(), ("swap", 0)]:
            self.assertRaises(BadTurn, turning.do, turn)
        self.assertEqual(turning.tried(), twin.tried())
        unsafe = ("part", 0)
        refused(self, Unsafe, "meeting", reversed_by(turning.now(), unsafe), turning.do, unsafe)
        self.look(turning, ROWS, [SPLIT], [("kept", SPLIT), ("kept", FUSE), ("unsafe", unsafe)])
        self.assertEqual(turning, twin)
        self.assertEqual(turning.ahead(), FUSE)

    def test_refusals_tell_what_the_turn_tells(self):
        turning = Turning(LINE)
        for about, turn in [(None, None), (1, ("fuse", 2)), (2, ("split", 0, 0)), (3, ("fuse", 1))]:
            refused(self, BadTurn, "about", about, turning.do, turn)
        refused(self, Unsafe, "meeting", ((0, 3), (1, 1), ((12,), (0,), (0,))), turning.do, ("part", 0))
        self.assertEqual(turning.tried(), (("unsafe", ("part", 0)),))

    def test_by_chance(self):
        chance = random.Random(3)
        went = {"do": 0, "unsafe": 0, "back": 0, "ahead": 0, "gone": 0}
        for program in PROGRAMS + [ROWS] + [chance_program(seed) for seed in range(40)]:
            turning, turns, spare, tried = Turning(program), [], [], []
            with Kept(self, program):
                for _ in range(14):
                    self.one(chance, turning, turns, spare, tried, went)
                    self.look(turning, program, turns, tried)
        self.assertGreater(min(went.values()), 20)

    def one(self, chance, turning, turns, spare, tried, went):
        word = chance.choice(["do", "do", "back", "ahead"])
        if word == "do":
            turn = chance.choice(turns_of(turning.now()))
            if is_safe(turning.now(), turn):
                due = turned(turning.now(), turn)
                self.assertEqual(turning.do(turn), due)
                turns.append(turn)
                spare.clear()
                tried.append(("kept", turn))
            else:
                refused(self, Unsafe, "meeting", reversed_by(turning.now(), turn), turning.do, turn)
                tried.append(("unsafe", turn))
                word = "unsafe"
        elif word == "back" and turns:
            spare.append(turns.pop())
            self.assertEqual(turning.back(), spare[-1])
        elif word == "ahead" and spare:
            turns.append(spare.pop())
            self.assertEqual(turning.ahead(), turns[-1])
        else:
            self.assertRaises(Gone, turning.back if word == "back" else turning.ahead)
            word = "gone"
        went[word] += 1

    def test_whatever_was_done_the_result_is_the_same(self):
        chance = random.Random(4)
        for program in SOME:
            turning = Turning(program)
            for _ in range(6):
                safe = [turn for turn in turns_of(turning.now()) if is_safe(turning.now(), turn)]
                if safe:
                    turning.do(chance.choice(safe))
            for sizes in [(1,) * len(program[0]), (3, 4, 2)[:len(program[0])]]:
                given = given_for(program, sizes)
                self.assertEqual(plain_run(turning.now(), sizes, given), plain_run(program, sizes, given))

    def test_making(self):
        for thing in ODD_THINGS + [deep_list(LINE)]:
            if not isinstance(thing, tuple) or len(thing) != 3:
                refused(self, BadProgram, "place", None, Turning, thing)
        refused(self, BadProgram, "place", ("nests",), Turning, with_part(LINE, (2,), []))


class Twins(unittest.TestCase):
    def test_a_twin_stands_so_and_goes_on_by_itself(self):
        turning = Turning(ROWS)
        turning.do(("swap", 0, (0, 1)))
        turning.do(("split", 0, 1))
        self.assertRaises(Unsafe, turning.do, ("part", 0))
        turning.back()
        twin = turning.turning_twin()
        self.assertIs(type(twin), Turning)
        self.assertIsNot(twin, turning)
        self.assertEqual(twin, turning)
        self.assertEqual((twin.now(), twin.ledger(), twin.tried(), len(twin)), (turning.now(), turning.ledger(), turning.tried(), len(turning)))
        told = (turning.now(), turning.ledger(), turning.tried())
        self.assertEqual(twin.ahead(), ("split", 0, 1))
        twin.do(("swap", 0, (0, 1)))
        self.assertEqual((turning.now(), turning.ledger(), turning.tried(), len(turning)), (*told, 1))
        self.assertEqual(turning.ahead(), ("split", 0, 1))
        self.assertEqual((len(twin), len(turning)), (3, 2))
        turning.back()
        turning.back()
        self.assertEqual((twin.now(), len(twin)), (turned(ROWS, ("split", 0, 1)), 3))

    def test_a_twin_of_what_nothing_was_done_to(self):
        turning = Turning(LINE)
        twin = turning.turning_twin()
        self.assertEqual((twin, twin.now(), len(twin)), (turning, LINE, 0))
        twin.do(FUSE)
        self.assertEqual((turning.now(), len(turning)), (LINE, 0))
        twin.back()
        self.assertEqual(twin.turning_twin().ahead(), FUSE)

    def test_what_was_told_stays_as_it_was(self):
        turning = Turning(LINE)
        turning.do(FUSE)
        ledger, tried, now = turning.ledger(), turning.tried(), turning.now()
        turning.back()
        turning.do(PART)
        self.assertEqual((ledger, tried, now), (ledger_of(LINE, [FUSE])[0], (("kept", FUSE),), turned(LINE, FUSE)))


class Equal(unittest.TestCase):
    def test_by_the_beginning_and_the_turns_that_stand(self):
        one, other = Turning(LINE), Turning(deepened(LINE))
        self.assertTrue(one == other)
        one.do(FUSE)
        self.assertTrue(one != other)
        one.back()
        self.assertTrue(one == other)
        self.assertFalse(one != other)
        one.do(FUSE)
        other.do(FUSE)
        self.assertEqual(one, other)
        other.do(("part", 0))
        self.assertNotEqual(one, other)

    def test_the_beginning_counts_and_what_comes_does_not(self):
        twice = many_nests(2)
        self.assertEqual(turned(twice, ("part", 0)), twice)
        one, other = Turning(twice), Turning(twice)
        one.do(("swap", 0, (0,)))
        self.assertEqual(one.now(), other.now())
        self.assertNotEqual(one, other)
        self.assertNotEqual(Turning(LINE), Turning(turned(LINE, FUSE)))
        self.assertNotEqual(Turning(PRODUCT), Turning(LINE))

    def test_to_what_is_no_turning_none_is(self):
        turning = Turning(LINE)
        for thing in ODD_THINGS + [LINE, "Turning(0)", []]:
            self.assertFalse(turning == thing)
            self.assertTrue(turning != thing)


def deepened(thing):
    """The same tuples, made anew."""
    return tuple(deepened(part) for part in thing) if isinstance(thing, tuple) else thing


class Ledgers(unittest.TestCase):
    def test_good_ones(self):
        self.assertEqual(check_ledger(program=LINE, ledger=()), LINE)
        turns = [FUSE, ("part", 0), ("swap", 0, (1, 0)), ("part", 0), ("split", 0, 1)]
        ledger, behind = ledger_of(LINE, turns)
        with Kept(self, LINE, ledger):
            self.assertEqual(check_ledger(LINE, ledger), behind)
        back_and_forth = [("swap", 0, (1, 0, 2)), ("swap", 0, (1, 0, 2))] * 20
        self.assertEqual(check_ledger(PRODUCT, ledger_of(PRODUCT, back_and_forth)[0]), PRODUCT)

    def test_no_tuple(self):
        for thing in ODD_THINGS + [deep_list(ledger_of(LINE, [FUSE])[0]), [], "fuse 0"]:
            if not isinstance(thing, tuple):
                refused(self, BadPaper, "about", None, check_ledger, LINE, thing)

    def test_spoilt_rows(self):
        ledger = ledger_of(LINE, [FUSE, ("part", 0), ("split", 1, 1)])[0]
        for number, (turn, paper) in enumerate(ledger):
            for row in ODD_THINGS + [
                    [turn, paper], (turn,), (turn, paper, 0), (paper, turn), (turn, None), (turn, list(paper)), (turn, paper + ((0,),)),
                    (None, paper), (("fuse", 4), ()), (("fuse", 0), paper + paper + ((),)), (list(turn), paper), (turn, Touchy())]:
                refused(self, BadPaper, "about", number, check_ledger, LINE, with_part(ledger, (number,), row))
            for ring in range(len(paper)):
                refused(self, BadPaper, "about", number, check_ledger, LINE, with_part(ledger, (number, 1, ring), (0, 1)))
        refused(self, BadPaper, "about", 0, check_ledger, LINE, with_part(with_part(ledger, (2,), None), (0,), None))
        refused(self, BadPaper, "about", 1, check_ledger, LINE, with_part(with_part(ledger, (2,), None), (1,), None))

    def test_an_unsafe_turn_has_no_paper(self):
        for paper in [(), ((0, 1),) * 2, turn_paper(LINE, FUSE)]:
            refused(self, BadPaper, "about", 0, check_ledger, LINE, ((("part", 0), paper),))

    def test_each_turn_is_one_of_what_came_ahead(self):
        ledger = ledger_of(LINE, [FUSE])[0]
        refused(self, BadPaper, "about", 1, check_ledger, LINE, ledger + ((("fuse", 1), ()),))
        refused(self, BadPaper, "about", 1, check_ledger, LINE, ledger + ledger)

    def test_programs_ahead(self):
        for thing in ODD_THINGS:
            if not isinstance(thing, tuple) or len(thing) != 3:
                refused(self, BadProgram, "place", None, check_ledger, thing, None)
                refused(self, BadProgram, "place", None, all_safe, thing, None)


class AllSafe(unittest.TestCase):
    def test_by_hand(self):
        self.assertEqual(all_safe(PRODUCT, 0), [("swap", 0, order) for order in [(0, 2, 1), (1, 0, 2), (1, 2, 0), (2, 0, 1), (2, 1, 0)]])
        self.assertEqual(all_safe(program=LINE, nest=0), [("fuse", 0), ("split", 0, 1)])
        self.assertEqual(all_safe(LINE, 1), [("part", 1), ("split", 1, 1)])
        self.assertEqual(all_safe(LINE, 2), [("swap", 2, (1, 0))])
        self.assertEqual(all_safe(CROSS, 0), [])
        twice = many_nests(2)
        self.assertEqual([all_safe(twice, nest) for nest in (0, 1)], [[("fuse", 0)], []])
        twice = with_part(twice, (2, 1, 1, 0, 1), "b")
        self.assertEqual([all_safe(twice, nest) for nest in (0, 1)], [[("fuse", 0), ("part", 0)], []])

    def test_against_all_turns(self):
        seen = set()
        for program in SOME:
            for nest in range(len(program[2])):
                same = ("swap", nest, tuple(range(len(program[2][nest][0]))))
                due = [turn for turn in turns_of(program) if turn[1] == nest and turn != same and is_safe(program, turn)]
                with Kept(self, program):
                    told = all_safe(program, nest)
                self.assertEqual(told, due)
                seen.update(turn[0] for turn in told)
                told.append(None)
                self.assertEqual(all_safe(program, nest), due)
        self.assertEqual(len(seen), 4)

    def test_nests(self):
        for number in ODD_NUMBERS + [3]:
            refused(self, BadNumber, "about", number, all_safe, LINE, number)
        refused(self, BadNumber, "about", 1, all_safe, DEEP, 1)


if __name__ == "__main__":
    unittest.main()
