"""[50] to [53]: lanes, their TURNS, SCHEDULES and ends, and the EVENTS that come."""

import itertools
import random
import unittest

from lanewright import lanes as lanes_file
from lanewright.errors import BadGiven, BadKernel, BadNumber, BadProgram, BadSchedule, BadSizes, Gone, NoSuch
from lanewright.lanes import Lanes, run_lanes
from tests.helper import (
    HEAD, ODD_NUMBERS, ODD_THINGS, Kept, Touchy, by, chance_kernel, count_of, deep_list, fixed, kernel, num, refused, stand_for,
    with_part,
)
from tests.test_clean import slow_clash_of

AT = (2, 1)
FENCE = ("fence",)


def reg(number):
    return ("reg", number)


STAND = stand_for(AT)


class Outside(Exception):
    pass


class SlowRun:
    """Another RUN: each lane is a row of Python's own generators, one within the other, that stop ahead of each row."""

    def __init__(self, thing, at, stand, most=2000000):
        self.named = dict(zip(HEAD[0], at))
        self.thing, self.most = thing, most
        self.sides = {name: [count_of(dim, self.named) for dim in dims]
                      for name, dims in [(row[0], row[2]) for row in HEAD[1]] + list(thing[2])}
        self.words = {}
        for name, words in stand:
            self.words.update({(name, None, cell): word for cell, word in zip(self.cells(name), words)})
        many = count_of(thing[1], self.named)
        self.groups = -(-many // thing[0])
        for group in range(self.groups):
            for name, _ in thing[2]:
                self.words.update({(name, group, cell): 0 for cell in self.cells(name)})
        self.lanes = {(group, lane): [0] * 32 for group in range(self.groups) for lane in range(thing[0])}
        self.ways = {who: self.way(who, thing[3], ()) for who in self.lanes}
        self.paths = {who: next(way, None) for who, way in self.ways.items()}
        self.intervals = {who: 0 for who in self.lanes}
        self.events, self.turns, self.cut = [], 0, None

    def cells(self, name):
        return list(itertools.product(*map(range, self.sides[name])))

    def ask(self, who, operand):
        return {"num": lambda: operand[1], "reg": lambda: self.lanes[who][operand[1]], "lane": lambda: who[1], "group": lambda: who[0],
                "size": lambda: self.named[operand[1]]}[operand[0]]()

    def way(self, who, rows, above):
        """Stops ahead of each row with its PATH, and does it when it goes on."""
        for number, row in enumerate(rows):
            path = above + (number,)
            yield path
            if row[0] == "loop":
                first, last = self.ask(who, row[2]), self.ask(who, row[3])
                for k in range(first, max(first, last)):
                    self.lanes[who][row[1]] = k
                    yield from self.way(who, row[4], path)
                    yield path
                self.lanes[who][row[1]] = max(first, last)
            elif row[0] == "if":
                if self.ask(who, row[1]) != 0:
                    yield from self.way(who, row[2], path)
            elif row[0] != "fence":
                self.do(who, path, row)

    def do(self, who, path, row):
        if row[0] == "set":
            self.lanes[who][row[1]] = self.ask(who, row[2])
        elif row[0] == "do":
            a, b = self.ask(who, row[3]), self.ask(who, row[4])
            made = {"add": a + b, "sub": a - b, "mul": a * b, "min": min(a, b), "max": max(a, b), "less": int(a < b), "div": a // b if b else 0,
                    "rest": a % b if b else 0}[row[1]]
            self.lanes[who][row[2]] = made % 65536
        else:
            name, spots = (row[2], row[3]) if row[0] == "load" else (row[1], row[2])
            cell = tuple(self.ask(who, spot) for spot in spots)
            key = (name, who[0] if name in dict(self.thing[2]) else None, cell)
            if key not in self.words:
                raise Outside
            if row[0] == "load":
                self.lanes[who][row[1]] = self.words[key]
            else:
                self.words[key] = self.ask(who, row[3])
            self.events.append((who, self.intervals[who], path, row[0], name, cell, self.words[key]))

    def row_of(self, who):
        rows, row = self.thing[3], None
        for number in self.paths[who]:
            row = rows[number]
            rows = row[-1]
        return row

    def group_of(self, who):
        return [other for other in self.lanes if other[0] == who[0] and self.paths[other] is not None]

    def can(self, who):
        if self.cut or self.paths[who] is None:
            return False
        return self.row_of(who)[0] != "fence" or len({self.paths[other] for other in self.group_of(who)}) == 1

    def turn(self, who):
        if not self.can(who):
            return None
        if self.turns == self.most:
            self.cut = ("long",)
            return None
        many = len(self.events)
        those = self.group_of(who) if self.row_of(who)[0] == "fence" else [who]
        fence = self.row_of(who)[0] == "fence"
        for other in those:
            try:
                self.intervals[other] += fence
                path = self.paths[other]
                self.paths[other] = next(self.ways[other], None)
            except Outside:
                self.cut = ("outside", other, path)
                return None
        self.turns += 1
        return self.events[-1] if len(self.events) > many else ()

    def plain(self):
        while True:
            for who in sorted(self.lanes):
                if self.can(who):
                    self.turn(who)
                    break
            else:
                return

    def end(self):
        if self.cut:
            return self.cut
        for who in sorted(self.lanes):
            if self.paths[who] is not None:
                return ("stuck", who, self.paths[who])
        return ("over",)

    def shown(self, names, group):
        return tuple((name, tuple(self.words[name, group, cell] for cell in self.cells(name))) for name in names)

    def far(self):
        return self.shown([row[0] for row in HEAD[1]], None)


class Case(unittest.TestCase):
    def look(self, lanes, slow):
        """All that is told of both is the same."""
        self.assertEqual(lanes.lanes_there(), tuple(sorted(slow.lanes)))
        for who in slow.lanes:
            self.assertIs(lanes.has_turn(*who), slow.can(who))
            self.assertEqual(lanes.path_of(*who), slow.paths[who])
            self.assertEqual(lanes.registers(*who), tuple(slow.lanes[who]))
            self.assertEqual(lanes.interval(*who), slow.intervals[who])
        over = not any(slow.can(who) for who in slow.lanes)
        self.assertIs(lanes.is_over(), over)
        if over:
            self.assertEqual(lanes.end(), slow.end())
        else:
            self.assertRaises(Gone, lanes.end)
        self.assertEqual(lanes.far(), slow.far())
        for group in range(slow.groups):
            self.assertEqual(lanes.near(group), slow.shown([near[0] for near in slow.thing[2]], group))
        self.assertEqual(lanes.events(), tuple(slow.events))
        self.assertEqual(lanes.turns(), slow.turns)
        self.assertEqual(len(lanes), len(slow.events))
        self.assertEqual((repr(lanes), str(lanes)), (f"Lanes({slow.turns})",) * 2)

    def runs(self, *rows, at=AT, stand=None, most=2000000, **named):
        """A RUN to its end, the same as the other one's."""
        thing = kernel(*rows, **named)
        stand = stand_for(at) if stand is None else stand
        lanes, slow = Lanes(*HEAD, thing, at, stand, most=most), SlowRun(thing, at, stand, most)
        self.look(lanes, slow)
        slow.plain()
        self.assertEqual(lanes.run(), slow.turns)
        self.look(lanes, slow)
        return lanes

    def registers_behind(self, *rows, lanes=1, **named):
        told = self.runs(*rows, lanes=lanes, count=fixed(1), **named)
        self.assertEqual(told.end(), ("over",))
        return told.registers(0, 0)


class Rows(Case):
    def test_set_and_operands(self):
        told = self.runs(("set", 0, num(65535)), ("set", 1, reg(0)), ("set", 2, ("lane",)), ("set", 3, ("group",)), ("set", 31, ("size", "m")),
                         ("set", 30, ("size", "n")), ("set", 2, reg(2)), lanes=3, count=fixed(7), at=(12, 5))
        self.assertEqual(told.lanes_there(), tuple(itertools.product(range(3), repeat=2)))
        for group, lane in told.lanes_there():
            self.assertEqual(told.registers(group, lane), (65535, 65535, lane, group) + (0,) * 26 + (5, 12))
        self.assertEqual(told.turns(), 63)

    def test_do(self):
        for op, one, other, due in [
                ("add", 65535, 1, 0), ("add", 65535, 65535, 65534), ("sub", 0, 1, 65535), ("sub", 5, 5, 0), ("mul", 65535, 65535, 1),
                ("mul", 256, 256, 0), ("min", 3, 65535, 3), ("max", 3, 65535, 65535), ("less", 1, 2, 1), ("less", 2, 2, 0), ("less", 65535, 0, 0),
                ("less", 0, 65535, 1), ("div", 7, 2, 3), ("div", 65535, 1, 65535), ("div", 3, 4, 0), ("div", 9, 0, 0), ("div", 0, 0, 0),
                ("rest", 7, 2, 1), ("rest", 65535, 256, 255), ("rest", 9, 0, 0), ("rest", 3, 4, 3), ("rest", 4, 4, 0)]:
            self.assertEqual(self.registers_behind(("do", op, 9, num(one), num(other)))[9], due)
            rows = [("set", 1, num(one)), ("set", 2, num(other)), ("do", op, 1, reg(1), reg(2))]
            self.assertEqual(self.registers_behind(*rows)[1], due)

    def test_load_and_store(self):
        stand = (("gift", (5, 6, 7, 8)), ("told", (1, 2, 3, 4)), ("mine", (0, 0, 0, 9)))
        told = self.runs(
            ("load", 1, "gift", (num(3),)), ("store", "gift", (num(0),), reg(1)), ("load", 2, "told", (num(1), ("lane",)), (4, None)),
            ("store", "desk", (num(2),), reg(2), (0, 3)), ("load", 3, "desk", (num(2),)), ("load", 4, "gifts", (num(0), num(1))),
            ("store", "mine", (("size", "m"),), num(65535)), lanes=1, count=fixed(1), at=AT, stand=stand)
        self.assertEqual(told.registers(0, 0)[:5], (0, 8, 3, 3, 0))
        self.assertEqual(told.far(), (("gift", (8, 6, 7, 8)), ("told", (1, 2, 3, 4)), ("mine", (0, 0, 65535, 9))))
        self.assertEqual(told.near(0), (("desk", (0, 0, 3)), ("gifts", (0, 0))))
        who = (0, 0)
        self.assertEqual(told.events(), (
            (who, 0, (0,), "load", "gift", (3,), 8), (who, 0, (1,), "store", "gift", (0,), 8), (who, 0, (2,), "load", "told", (1, 0), 3),
            (who, 0, (3,), "store", "desk", (2,), 3), (who, 0, (4,), "load", "desk", (2,), 3), (who, 0, (5,), "load", "gifts", (0, 1), 0),
            (who, 0, (6,), "store", "mine", (2,), 65535)))

    def test_near_arrays_are_each_groups_own(self):
        told = self.runs(("do", "add", 1, ("group",), num(5)), ("store", "desk", (("lane",),), reg(1)), lanes=2, count=fixed(3))
        self.assertEqual([told.near(group)[0] for group in (0, 1)], [("desk", (5, 5, 0)), ("desk", (6, 6, 0))])

    def test_loops(self):
        count = ("do", "add", 9, reg(9), num(1))
        for first, last, many in [(0, 3, 3), (3, 3, 0), (5, 2, 0), (65533, 65535, 2), (0, 0, 0), (2, 5, 3)]:
            told = self.registers_behind(("loop", 4, num(first), num(last), (count, ("do", "add", 8, reg(8), reg(4)))))
            self.assertEqual((told[4], told[9]), (max(first, last), many))
            self.assertEqual(told[8], sum(range(first, last)) % 65536)
            lanes = self.runs(("loop", 4, num(first), num(last), (count,)), lanes=1, count=fixed(1))
            self.assertEqual(lanes.turns(), 2 * many + 1)
            self.assertEqual(self.runs(("loop", 4, num(first), num(last), ()), lanes=1, count=fixed(1)).turns(), many + 1)

    def test_whatever_rows_do_to_the_register_of_a_loop(self):
        for spoil in [("set", 4, num(9)), ("set", 4, num(0)), ("do", "sub", 4, reg(4), num(1))]:
            told = self.registers_behind(("loop", 4, num(0), num(4), (("do", "add", 8, reg(8), reg(4)), spoil)))
            self.assertEqual((told[4], told[8]), (4, 6))

    def test_both_are_asked_once_ahead(self):
        told = self.registers_behind(("set", 1, num(2)), ("set", 4, num(5)), ("loop", 4, reg(1), reg(4), (
            ("set", 1, num(0)), ("do", "add", 8, reg(8), num(1)))))
        self.assertEqual((told[4], told[8]), (5, 3))
        told = self.registers_behind(("set", 1, num(3)), ("loop", 1, reg(1), num(5), (("do", "add", 8, reg(8), reg(1)),)))
        self.assertEqual((told[1], told[8]), (5, 7))

    def test_loops_within_loops(self):
        inner = ("loop", 1, reg(0), num(3), (("do", "add", 8, reg(8), num(1)), ("loop", 0, num(7), num(8), ())))
        told = self.registers_behind(("loop", 0, num(0), num(3), (inner,)))
        self.assertEqual((told[0], told[1], told[8]), (3, 3, 6))

    def test_if(self):
        for asked, due in [(num(0), 0), (num(1), 7), (num(65535), 7), (reg(3), 0), (("size", "m"), 7), (("lane",), 0)]:
            self.assertEqual(self.registers_behind(("if", asked, (("set", 2, num(7)),)))[2], due)
            lanes = self.runs(("if", asked, (("set", 2, num(7)),)), ("if", asked, ()), lanes=1, count=fixed(1))
            self.assertEqual(lanes.turns(), 3 if due else 2)

    def test_paths_on_the_way(self):
        thing = kernel(("if", num(1), (("loop", 0, num(0), num(2), (("if", reg(0), (("set", 1, num(1)),)),)),)), ("set", 2, num(2)),
                       lanes=1, count=fixed(1))
        lanes = Lanes(*HEAD, thing, AT, STAND)
        seen = []
        while lanes.has_turn(0, 0):
            seen.append(lanes.path_of(0, 0))
            self.assertEqual(lanes.turn(0, 0), ())
        self.assertEqual(seen, [(0,), (0, 0), (0, 0, 0), (0, 0), (0, 0, 0), (0, 0, 0, 0), (0, 0), (1,)])
        self.assertIsNone(lanes.path_of(0, 0))
        self.assertIsNone(lanes.turn(0, 0))
        self.assertEqual(lanes.end(), ("over",))


class Fences(Case):
    def test_all_lanes_of_the_group_pass_at_once(self):
        thing = kernel(FENCE, ("set", 1, num(1)), lanes=3, count=fixed(4))
        lanes = Lanes(*HEAD, thing, AT, STAND)
        self.assertEqual(lanes.turn(0, 1), ())
        self.assertEqual([lanes.interval(*who) for who in lanes.lanes_there()], [1, 1, 1, 0, 0, 0])
        self.assertEqual([lanes.path_of(*who) for who in lanes.lanes_there()], [(1,)] * 3 + [(0,)] * 3)
        self.assertEqual(lanes.turns(), 1)
        self.assertEqual(lanes.run(), 3 + 1 + 3)

    def test_who_is_ahead_waits(self):
        thing = kernel(("if", ("lane",), (("set", 1, num(1)),)), FENCE, lanes=2, count=fixed(2))
        lanes = Lanes(*HEAD, thing, AT, STAND)
        lanes.turn(0, 0)
        self.assertIs(lanes.has_turn(0, 0), False)
        self.assertIsNone(lanes.turn(0, 0))
        self.assertEqual(lanes.turns(), 1)
        lanes.turn(0, 1)
        self.assertIs(lanes.has_turn(0, 0), False)
        lanes.turn(0, 1)
        self.assertIs(lanes.has_turn(0, 0), True)
        self.assertIs(lanes.has_turn(0, 1), True)
        self.assertEqual(lanes.turn(0, 0), ())
        self.assertEqual((lanes.end(), lanes.turns()), (("over",), 4))

    def test_lanes_that_are_over_are_not_waited_for(self):
        odd = ("do", "rest", 1, ("lane",), num(2))
        told = self.runs(odd, ("if", reg(1), (FENCE, ("store", "desk", (num(0),), num(3)))), lanes=3, count=fixed(3))
        self.assertEqual(told.end(), ("over",))
        self.assertEqual([told.interval(0, lane) for lane in range(3)], [0, 1, 0])

    def test_lanes_at_unlike_fences_are_stuck(self):
        told = self.runs(("if", ("lane",), (FENCE,)), FENCE, lanes=2, count=fixed(2))
        self.assertEqual(told.end(), ("stuck", (0, 0), (1,)))
        told = self.runs(("do", "min", 1, ("lane",), ("group",)), ("if", reg(1), (FENCE,)), FENCE, lanes=2, count=fixed(6))
        self.assertEqual(told.end(), ("stuck", (1, 0), (2,)))
        self.assertEqual(told.path_of(0, 0), None)

    def test_one_fence_in_a_loop(self):
        told = self.runs(("loop", 0, num(0), num(3), (("store", "desk", (("lane",),), reg(0)), FENCE, ("load", 1, "desk", (num(1),)), FENCE)),
                         lanes=3, count=fixed(5))
        self.assertEqual(told.end(), ("over",))
        self.assertIsNone(told.clash())
        self.assertEqual({told.interval(*who) for who in told.lanes_there()}, {6})
        # A lane may be at it in another round of its loop than the others: it is one fence all the same.
        told = self.runs(("loop", 0, ("lane",), num(2), (FENCE,)), lanes=2, count=fixed(2))
        self.assertEqual((told.end(), told.interval(0, 0), told.interval(0, 1)), (("over",), 2, 1))


class Ends(Case):
    def test_no_lanes_at_all(self):
        told = self.runs(("set", 0, num(1)), count=fixed(0))
        self.assertEqual((told.end(), told.lanes_there(), told.is_over(), told.run()), (("over",), (), True, 0))
        refused(self, NoSuch, "name", (0, 0), told.turn, 0, 0)
        refused(self, NoSuch, "name", 0, told.near, 0)
        self.assertEqual(self.runs(("set", 0, num(1)), count=by("m", 1, -1), at=(1, 1)).lanes_there(), ())

    def test_no_rows_at_all(self):
        told = self.runs(lanes=2, count=fixed(3))
        self.assertEqual((told.end(), len(told.lanes_there()), told.turns()), (("over",), 4, 0))

    def test_lanes_beyond_the_count_run_too(self):
        told = self.runs(("set", 0, num(1)), lanes=4, count=fixed(5))
        self.assertEqual((len(told.lanes_there()), told.turns()), (8, 8))
        for count, groups in [(fixed(4), 1), (fixed(8), 2), (fixed(9), 3), (by("m", 3), 2)]:
            self.assertEqual(len(self.runs(FENCE, lanes=4, count=count).lanes_there()), 4 * groups)

    def test_long(self):
        rows = [("loop", 0, num(0), num(9), ())]
        for most in range(12):
            told = self.runs(*rows, lanes=1, count=fixed(1), most=most)
            self.assertEqual(told.end(), ("over",) if most >= 10 else ("long",))
            self.assertEqual(told.turns(), min(most, 10))
        lanes = Lanes(*HEAD, kernel(*rows), AT, STAND, most=0)
        self.assertIs(lanes.is_over(), False)
        self.assertRaises(Gone, lanes.end)
        self.assertIsNone(lanes.turn(1, 1))
        self.assertEqual((lanes.end(), lanes.is_over(), lanes.turns(), lanes.has_turn(0, 0)), (("long",), True, 0, False))
        self.assertEqual(lanes.run(), 0)

    def test_long_comes_ahead_of_outside(self):
        rows = [("set", 0, num(1)), ("load", 0, "gift", (num(9),))]
        self.assertEqual(self.runs(*rows, lanes=1, count=fixed(1), most=1).end(), ("long",))
        self.assertEqual(self.runs(*rows, lanes=1, count=fixed(1), most=2).end(), ("outside", (0, 0), (1,)))

    def test_outside(self):
        for row in [("load", 5, "gift", (num(4),)), ("store", "gift", (num(65535),), num(1)), ("load", 5, "told", (num(0), num(2))),
                    ("store", "told", (num(2), num(0)), num(3)), ("store", "desk", (num(3),), num(3)), ("load", 5, "gifts", (num(1), num(0))),
                    ("load", 5, "gifts", (num(0), num(2)), (0, None))]:
            told = self.runs(("set", 5, num(7)), ("if", ("lane",), (row,)), lanes=2, count=fixed(4))
            self.assertEqual(told.end(), ("outside", (0, 1), (1, 0)))
            self.assertEqual((told.registers(0, 1)[5], told.path_of(0, 1), len(told), told.turns()), (7, (1, 0), 0, 4))
            self.assertEqual([told.has_turn(*who) for who in told.lanes_there()], [False] * 4)
            self.assertEqual([told.turn(*who) for who in told.lanes_there()], [None] * 4)
            self.assertEqual(told.far(), STAND)

    def test_just_inside(self):
        told = self.runs(("load", 1, "gift", (num(3),)), ("load", 1, "told", (num(1), num(1))), ("store", "gifts", (num(0), num(1)), num(1)))
        self.assertEqual(told.end(), ("over",))

    def test_an_end_in_place_of_a_turn_by_hand(self):
        lanes = Lanes(*HEAD, kernel(("load", 1, "mine", (("group",),)), ("store", "mine", (num(4),), num(1))), AT, STAND)
        self.assertEqual(lanes.turn(1, 0), ((1, 0), 0, (0,), "load", "mine", (1,), STAND[2][1][1]))
        self.assertIsNone(lanes.turn(1, 0))
        self.assertEqual((lanes.end(), lanes.turns(), lanes.run(((0, 0), (0, 1)))), (("outside", (1, 0), (1,)), 1, 0))


class Schedules(Case):
    def test_by_chance_turn_by_turn(self):
        ends = {}
        for seed in range(250):
            chance = random.Random(seed)
            thing, at = chance_kernel(seed), chance.choice([(1, 1), (2, 3), (3, 2)])
            stand = stand_for(at, seed)
            most = chance.choice([2000000, 2000000, 40, chance.randrange(30)])
            with Kept(self, thing, at, stand):
                lanes, slow = Lanes(*HEAD, thing, at, stand, most=most), SlowRun(thing, at, stand, most)
                for _ in range(60):
                    if slow.lanes:
                        who = chance.choice(sorted(slow.lanes))
                        self.assertEqual(lanes.turn(*who), slow.turn(who))
                self.look(lanes, slow)
                before = slow.turns
                slow.plain()
                self.assertEqual(lanes.run(), slow.turns - before)
                self.look(lanes, slow)
                self.assertEqual(lanes.clash(), slow_clash_of(thing, lanes.events()))
            ends[lanes.end()[0]] = ends.get(lanes.end()[0], 0) + 1
        self.assertGreater(min(ends.get(word, 0) for word in ("over", "stuck", "long", "outside")), 10, ends)

    def test_by_chance_with_schedules(self):
        for seed in range(250):
            chance = random.Random(seed)
            thing, at = chance_kernel(seed), (2, 2)
            stand = stand_for(at, seed)
            slow, lanes = SlowRun(thing, at, stand), Lanes(*HEAD, thing, at, stand)
            there = sorted(slow.lanes)
            schedule = tuple(chance.choice(there) for _ in range(chance.choice([0, 1, 30, 200]))) if there else ()
            for who in schedule:
                slow.turn(who)
            slow.plain()
            with Kept(self, thing, stand, schedule):
                self.assertEqual(lanes.run(schedule), slow.turns)
            self.look(lanes, slow)
            self.assertEqual(run_lanes(*HEAD, thing, at, stand, schedule=schedule), (slow.end(), slow.far(), tuple(slow.events)))
            self.assertEqual(lanes.run(schedule), 0)

    def test_whoever_has_no_turn_is_passed_over(self):
        thing = kernel(("store", "mine", (("lane",),), num(1)), FENCE, ("store", "mine", (("lane",),), num(2)), lanes=2, count=fixed(2))
        lanes = Lanes(*HEAD, thing, AT, STAND)
        self.assertEqual(lanes.run(schedule=((0, 1), (0, 1), (0, 1), (0, 0), (0, 1), (0, 1), (0, 1), (0, 1))), 5)
        self.assertEqual([(row[0][1], row[2][0]) for row in lanes.events()], [(1, 0), (0, 0), (1, 2), (0, 2)])

    def test_by_one_clean_run_all_are(self):
        clean = 0
        for seed in range(400):
            thing, at = chance_kernel(seed), (2, 2)
            stand = stand_for(at, seed)
            lanes = Lanes(*HEAD, thing, at, stand)
            lanes.run()
            if lanes.end() == ("over",) and lanes.clash() is None and len(lanes) > 3:
                clean += 1
                for more in range(4):
                    chance = random.Random(more)
                    other = Lanes(*HEAD, thing, at, stand)
                    other.run(tuple(chance.choice(lanes.lanes_there()) for _ in range(150)))
                    self.assertEqual((other.end(), other.clash(), other.turns(), other.far()), (("over",), None, lanes.turns(), lanes.far()))
                    for who in lanes.lanes_there():
                        self.assertEqual([row for row in other.events() if row[0] == who], [row for row in lanes.events() if row[0] == who])
        self.assertGreater(clean, 20)

    def test_bad_schedules(self):
        lanes = Lanes(*HEAD, kernel(("set", 0, num(1)), lanes=2, count=fixed(3)), AT, STAND)
        for schedule in ODD_THINGS + [[(0, 0)], "", {}]:
            if not isinstance(schedule, tuple):
                refused(self, BadSchedule, "about", None, lanes.run, schedule)
                refused(self, BadSchedule, "about", None, run_lanes, *HEAD, kernel(), AT, STAND, schedule=schedule)
        good = ((0, 0), (1, 1), (0, 1))
        for number in range(3):
            for who in ODD_THINGS + [(0, 2), (2, 0), (-1, 0), (0, -1), (True, 0), (0, False), [0, 0], (0,), (0, 0, 0), ("0", 0), (Touchy(), 0),
                                     (0, Touchy()), 0, (None, None)]:
                schedule = with_part(good, (number,), who)
                refused(self, BadSchedule, "about", number, lanes.run, schedule)
                refused(self, BadSchedule, "about", number, lanes.run, schedule + (None,))
                refused(self, BadSchedule, "about", number, run_lanes, *HEAD, kernel(), AT, STAND, schedule=schedule)
        self.assertEqual((lanes.turns(), lanes.is_over()), (0, False))
        self.assertEqual(lanes.run(good), 4)
        refused(self, BadSchedule, "about", 0, Lanes(*HEAD, kernel(count=fixed(0)), AT, STAND).run, ((0, 0),))
        refused(self, BadSchedule, "about", 0, lanes.run, (None,))


class Twins(Case):
    def test_a_twin_stands_so_and_goes_on_by_itself(self):
        for seed in range(80):
            chance = random.Random(seed)
            thing, at = chance_kernel(seed), (2, 2)
            stand = stand_for(at, seed)
            lanes, slow = Lanes(*HEAD, thing, at, stand), SlowRun(thing, at, stand)
            other = SlowRun(thing, at, stand)
            there = sorted(slow.lanes)
            for _ in range(chance.randrange(40) if there else 0):
                who = chance.choice(there)
                slow.turn(who)
                other.turn(who)
                lanes.turn(*who)
            twin = lanes.lanes_twin()
            self.assertIs(type(twin), Lanes)
            self.assertIsNot(twin, lanes)
            self.assertEqual(twin, lanes)
            self.look(twin, slow)
            for _ in range(20 if there else 0):
                who = chance.choice(there)
                self.assertEqual(twin.turn(*who), other.turn(who))
            self.look(lanes, slow)
            self.look(twin, other)
            slow.plain()
            lanes.run()
            self.look(twin, other)
            self.look(lanes, slow)
            other.plain()
            twin.run()
            self.look(twin, other)

    def test_a_twin_has_the_same_most(self):
        lanes = Lanes(*HEAD, kernel(("loop", 0, num(0), num(9), ()), lanes=1, count=fixed(1)), AT, STAND, most=5)
        lanes.turn(0, 0)
        twin = lanes.lanes_twin()
        self.assertEqual((twin.run(), twin.end(), lanes.turns()), (4, ("long",), 1))

    def test_what_was_told_stays_as_it_was(self):
        lanes = Lanes(*HEAD, kernel(("store", "desk", (("lane",),), num(4)), ("store", "mine", (("lane",),), num(5))), AT, STAND)
        lanes.turn(0, 0)
        told = (lanes.far(), lanes.near(0), lanes.events(), lanes.registers(0, 0), lanes.lanes_there())
        copies = tuple(told)
        lanes.run()
        self.assertEqual(told, copies)
        self.assertEqual(told[0], STAND)
        self.assertEqual([type(part) for part in told], [tuple] * 5)
        self.assertEqual(told[1], (("desk", (4, 0, 0)), ("gifts", (0, 0))))


class Equal(Case):
    THING = kernel(("set", 0, num(1)), ("load", 1, "mine", (("lane",),)), ("loop", 2, num(0), ("size", "m"), ()), lanes=2, count=fixed(2))

    def made(self, thing=None, at=AT, stand=STAND, **named):
        return Lanes(*HEAD, self.THING if thing is None else thing, at, stand, **named)

    def test_by_what_was_handed_in(self):
        self.assertTrue(self.made() == self.made(most=2000000))
        self.assertFalse(self.made() != self.made())
        self.assertNotEqual(self.made(), self.made(most=1999999))
        self.assertNotEqual(self.made(), self.made(thing=with_part(self.THING, (1,), fixed(1))))
        self.assertNotEqual(self.made(), self.made(thing=with_part(self.THING, (3, 0, 2), num(0))))
        self.assertNotEqual(self.made(), self.made(stand=with_part(STAND, (2, 1, 3), STAND[2][1][3] ^ 1)))
        unused = (("m", "n"), (("mine", "own", (fixed(4),)),))
        stand = (STAND[2],)
        self.assertNotEqual(Lanes(*unused, self.THING, (2, 1), stand), Lanes(*unused, self.THING, (2, 2), stand))
        self.assertNotEqual(Lanes(("m", "n"), unused[1], kernel(), (2, 2), stand), Lanes(("m", "k"), unused[1], kernel(nears=()), (2, 2), stand))
        self.assertNotEqual(Lanes(*unused, kernel(), AT, stand),
                            Lanes(unused[0], with_part(unused[1], (0, 1), "told"), kernel(), AT, stand))

    def test_by_all_that_came(self):
        one, other = self.made(), self.made()
        one.turn(0, 0)
        self.assertNotEqual(one, other)
        other.turn(0, 1)
        self.assertNotEqual(one, other)
        one.turn(0, 1)
        other.turn(0, 0)
        self.assertEqual(one, other)
        one.turn(0, 0)
        one.turn(0, 1)
        other.turn(0, 1)
        other.turn(0, 0)
        # All lanes stand alike, but EVENTS came in another order.
        self.assertEqual(one.far(), other.far())
        self.assertNotEqual(one, other)

    def test_by_the_round_of_a_loop(self):
        thing = kernel(("loop", 2, num(0), num(3), (("set", 2, num(7)),)), ("loop", 3, num(0), num(9), ()), lanes=2, count=fixed(2))
        one, other = self.made(thing=thing), self.made(thing=thing)
        for lanes, whom in [(one, [0] * 2 + [1] * 4), (other, [0] * 4 + [1] * 2)]:
            for lane in whom:
                lanes.turn(0, lane)
        self.assertEqual([one.registers(0, lane) for lane in (0, 1)], [other.registers(0, lane) for lane in (0, 1)])
        self.assertEqual([one.path_of(0, lane) for lane in (0, 1)], [other.path_of(0, lane) for lane in (0, 1)])
        self.assertEqual(one.turns(), other.turns())
        self.assertNotEqual(one, other)
        for lanes in (one, other):
            lanes.run()
        self.assertEqual(one, other)

    def test_by_an_end_in_the_place_of_a_turn(self):
        thing = kernel(("if", num(0), ()), ("load", 1, "mine", (num(4),)), lanes=2, count=fixed(2))
        one, other = self.made(thing=thing), self.made(thing=thing)
        for lane in (0, 1):
            one.turn(0, lane)
            other.turn(0, lane)
        self.assertEqual(one, other)
        one.turn(0, 0)
        self.assertNotEqual(one, other)
        other.turn(0, 1)
        self.assertEqual((one.end(), other.end()), (("outside", (0, 0), (1,)), ("outside", (0, 1), (1,))))
        self.assertNotEqual(one, other)
        third = self.made(thing=thing)
        third.run()
        self.assertNotEqual(one, third)
        one_long, other_long = self.made(most=2), self.made(most=2)
        for lanes in (one_long, other_long):
            lanes.turn(0, 0)
            lanes.turn(0, 0)
        one_long.turn(0, 1)
        self.assertNotEqual(one_long, other_long)
        other_long.turn(0, 0)
        self.assertEqual(one_long, other_long)

    def test_to_what_is_no_lanes_none_is(self):
        lanes = self.made()
        for thing in ODD_THINGS + [(), lanes.events(), "Lanes(0)"]:
            self.assertFalse(lanes == thing)
            self.assertTrue(lanes != thing)


class Refused(Case):
    GOOD = (*HEAD, kernel(("set", 0, num(1))), AT, STAND)

    def both(self, error, field, about, *things, **named):
        refused(self, error, field, about, Lanes, *things, **named)
        refused(self, error, field, about, run_lanes, *things, **named, schedule=None)

    def test_constants(self):
        self.assertEqual(lanes_file.MOST_TURNS, 2000000)

    def test_by_their_names(self):
        names = dict(zip(("sizes", "arrays", "kernel", "at", "stand"), self.GOOD))
        self.assertEqual(Lanes(**names, most=7), Lanes(*self.GOOD, most=7))
        self.assertEqual(run_lanes(**names), (("over",), STAND, ()))
        self.assertEqual(run_lanes(**names, schedule=((1, 1),), most=1), (("long",), STAND, ()))
        lanes = Lanes(*self.GOOD)
        self.assertEqual((lanes.has_turn(group=0, lane=1), lanes.path_of(group=0, lane=1), lanes.interval(group=0, lane=1)), (True, (0,), 0))
        self.assertEqual((lanes.turn(group=0, lane=1), lanes.registers(group=0, lane=1)[0]), ((), 1))
        self.assertEqual(lanes.near(group=1), (("desk", (0, 0, 0)), ("gifts", (0, 0))))

    def test_heads_and_kernels(self):
        for thing in ODD_THINGS:
            self.both(BadProgram, "place", ("sizes",), thing, None, None, None, None, most=None)
            if not isinstance(thing, tuple) or len(thing) > 6 or len(thing) == 0:
                self.both(BadProgram, "place", ("array", None), HEAD[0], thing, None, None, None, most=None)
            if not isinstance(thing, tuple) or len(thing) != 4:
                self.both(BadKernel, "place", None, *HEAD, thing, None, None, most=None)
        self.both(BadKernel, "place", (1, 0), *HEAD, kernel(FENCE, ("if", num(1), (("fence", 1),))), None, None, most=None)
        self.both(BadKernel, "place", "near", *HEAD, kernel(nears=(("gift", (fixed(1),)),)), None, None, most=None)

    def test_sizes(self):
        for at in ODD_THINGS + [(1,), (1, 1, 1), [1, 1]]:
            about = 0 if isinstance(at, tuple) and len(at) == 2 else None
            self.both(BadSizes, "about", about, *self.GOOD[:3], at, None, most=None)
        for size in [0, 13, True, "1", None, Touchy()]:
            self.both(BadSizes, "about", 0, *self.GOOD[:3], (size, size), None, most=None)
            self.both(BadSizes, "about", 1, *self.GOOD[:3], (12, size), None, most=None)

    def test_stands(self):
        for stand in ODD_THINGS + [STAND[:2], STAND + STAND[:1], list(STAND), deep_list(STAND), dict(STAND)]:
            if not isinstance(stand, tuple) or len(stand) != 3:
                self.both(BadGiven, "about", None, *self.GOOD[:4], stand, most=None)
        for number, (name, words) in enumerate(STAND):
            for pair in ODD_THINGS + [
                    (name,), (name, words, 0), [name, words], (name, list(words)), ("none", words), (None, words), (words, name), (name, words[1:]),
                    (name, words + (0,)), (name, words[1:] + (65536,)), (name, words[1:] + (-1,)), (name, words[1:] + (True,)),
                    (name, words[1:] + (None,)), (Touchy(), words), (name, Touchy()), (name, (Touchy(),) * len(words)), (name.encode(), words)]:
                self.both(BadGiven, "about", number, *self.GOOD[:4], with_part(STAND, (number,), pair), most=None)
        self.both(BadGiven, "about", 0, *self.GOOD[:4], (None, None, None), most=None)
        self.both(BadGiven, "about", 0, *self.GOOD[:4], STAND[1:2] + STAND[:1] + STAND[2:], most=None)
        self.both(BadGiven, "about", 0, *self.GOOD[:3], (1, 1), STAND, most=None)

    def test_most(self):
        for most in [None, True, False, -1, 2000001, 10 ** 3999, "1", b"1", (1,), [1], {}, object(), Touchy()]:
            self.both(BadNumber, "about", most, *self.GOOD, most=most)
        for most in (0, 1, 2000000):
            self.assertEqual(Lanes(*self.GOOD, most=most).turns(), 0)
        self.assertRaises(TypeError, Lanes, *self.GOOD, 5)

    def test_no_such_lanes(self):
        lanes = Lanes(*self.GOOD)
        twin = lanes.lanes_twin()
        for thing in ODD_NUMBERS + [2]:
            for call in (lanes.turn, lanes.has_turn, lanes.path_of, lanes.registers, lanes.interval):
                refused(self, NoSuch, "name", (0, 99), call, 0, 99)
                for who in [(thing, 0), (0, thing), (thing, thing)]:
                    with self.assertRaises(NoSuch) as seen:
                        call(*who)
                    self.assertIs(type(seen.exception.name), tuple)
                    self.assertTrue(all(one is other for one, other in zip(seen.exception.name, who)))
            refused(self, NoSuch, "name", thing, lanes.near, thing)
        self.assertEqual(lanes, twin)


if __name__ == "__main__":
    unittest.main()
