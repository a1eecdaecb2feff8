"""[53] to [56]: EVENTS that CLASH, papers that they are CLEAN, words moved; what one CLEAN RUN tells of all."""

import itertools
import random
import unittest

from lanewright.clean import check_clean, clash_of, clean_paper, is_clean, one_order, words_moved
from lanewright.errors import BadPaper
from lanewright.lanes import Lanes, run_lanes
from tests.helper import HEAD, NEARS, ODD_THINGS, Kept, Touchy, chance_kernel, deep_list, fifty_deep, kernel, refused, stand_for, with_part


def event(who, interval, kind, name, cell, word=0, path=(0,)):
    return (who, interval, path, kind, name, cell, word)


def clash(one, other, near):
    """By the words of the document."""
    unlike = one[0] != other[0]
    one_cell = (one[4], one[5]) == (other[4], other[5]) and (one[4] not in near or one[0][0] == other[0][0])
    return unlike and one_cell and "store" in (one[3], other[3]) and (one[0][0] != other[0][0] or one[1] == other[1])


def slow_clash_of(thing, events):
    near = [row[0] for row in thing[2]]
    for number, there in enumerate(events):
        for ahead in events[:number]:
            if clash(ahead, there, near):
                return (ahead, there)
    return None


class Clashes(unittest.TestCase):
    def both(self, one, other, due):
        for events in [(one, other), (other, one)]:
            self.assertEqual(clash_of(kernel(), events), events if due else None)

    def test_two_by_hand(self):
        for who, there, interval, later, near, far in [
                ((0, 0), (0, 1), 0, 0, True, True), ((0, 0), (0, 1), 0, 1, False, False), ((0, 0), (0, 0), 0, 0, False, False),
                ((0, 0), (1, 0), 0, 0, False, True), ((0, 0), (1, 0), 0, 7, False, True), ((0, 1), (1, 0), 2, 2, False, True),
                ((2, 1), (2, 0), 3, 3, True, True), ((0, 0), (0, 0), 0, 5, False, False)]:
            for kinds in itertools.product(["load", "store"], repeat=2):
                stored = "store" in kinds
                for name, due in [("desk", near), ("told", far)]:
                    one, other = event(who, interval, kinds[0], name, (1,)), event(there, later, kinds[1], name, (1,), path=(5, 2))
                    self.both(one, other, due and stored)
                    self.both(one, event(there, later, kinds[1], name, (2,)), False)
                    self.both(one, event(there, later, kinds[1], "other", (1,)), False)

    def test_the_first_and_the_first_ahead_of_it(self):
        load, again = event((0, 0), 0, "load", "told", (0, 0)), event((0, 2), 0, "load", "told", (0, 0), 3)
        store, later = event((0, 1), 0, "store", "told", (0, 0)), event((0, 3), 0, "store", "told", (0, 0))
        self.assertEqual(clash_of(kernel=kernel(), events=(load, again, store, later)), (load, store))
        self.assertEqual(clash_of(kernel(), (store, load, again)), (store, load))
        self.assertEqual(clash_of(kernel(), (again, load, load)), None)
        own = event((0, 1), 0, "load", "told", (0, 0))
        self.assertEqual(clash_of(kernel(), (own, store, again)), (store, again))
        self.assertIsNone(clash_of(kernel(), ()))
        self.assertIsNone(clash_of(kernel(), (store,) * 5))

    def test_nothing_of_a_kernel_but_its_near_names_is_looked_at(self):
        events = (event((0, 0), 0, "store", "desk", (0,)), event((1, 0), 0, "store", "desk", (0,)))
        self.assertIsNone(clash_of((None, None, (("desk", None),), None), events))
        self.assertEqual(clash_of((None, None, (("gifts", None),), None), events), events)

    def test_by_chance(self):
        chance = random.Random(8)
        seen = {True: 0, False: 0}
        for _ in range(3000):
            groups, lanes, cells = chance.randint(1, 3), chance.randint(1, 3), chance.randint(1, 8)
            events = tuple(
                event((chance.randrange(groups), chance.randrange(lanes)), chance.randrange(3), chance.choice(["load", "load", "store"]),
                      chance.choice(["desk", "gifts", "told", "mine"]), (chance.randrange(cells),), chance.randrange(4))
                for _ in range(chance.randint(0, 14)))
            with Kept(self, events):
                told = clash_of(kernel(nears=NEARS), events)
            self.assertEqual(told, slow_clash_of(kernel(nears=NEARS), events))
            seen[told is None] += 1
            self.assertIs(is_clean(kernel(), events), told is None)
        self.assertGreater(min(seen.values()), 500)

    def test_of_a_list_and_by_names(self):
        events = [event((0, 0), 0, "store", "told", (0,)), event((1, 0), 0, "load", "told", (0,))]
        self.assertEqual(clash_of(kernel=kernel(), events=events), tuple(events))
        self.assertIs(is_clean(kernel=kernel(), events=events), False)
        self.assertIs(is_clean(kernel=kernel(), events=events[:1]), True)

    def test_many_events(self):
        events = [event((0, lane), interval, "store", "told", (0, lane)) for interval in range(300) for lane in range(8)]
        events += [event((0, 3), 300, "store", "told", (0, 0)), event((0, 0), 300, "load", "told", (0, 0))]
        self.assertEqual(clash_of(kernel(), tuple(events)), tuple(events[-2:]))


def place(one, near=("desk", "gifts")):
    return (one[4], one[0][0] if one[4] in near else None, one[5])


def slow_fits(events, one, paper):
    """Whether an EVENT FITS a paper, by the words of the document."""
    rows = [row for row in paper if (row[0], row[1], row[3]) == place(one) and row[2] in (one[1], None)]
    if len(rows) != 1 or not (rows[0][4] == one[0] or (rows[0][4] == "all" and one[3] == "load")):
        return False
    groups = {other[0][0] for other in events if place(other) == place(one)}
    return one[4] in ("desk", "gifts") or len(groups) == 1 or rows[0][2] is None


def ranks(paper):
    low = {None: -1}
    return [(row[0], low.get(row[1], row[1]), low.get(row[2], row[2]), row[3]) for row in paper]


def slow_check(events, paper):
    """None, or what BadPaper tells of a paper of good rows."""
    if any(one >= other for one, other in zip(ranks(paper), ranks(paper)[1:])):
        return (None,)
    for number, one in enumerate(events):
        if not slow_fits(events, one, paper):
            return (("event", number),)
    return None


def slow_paper(events):
    """The paper of CLEAN EVENTS: of all choices for each place that which has as few rows as can be, by None where it may be."""
    rows = []
    for spot in {place(one): None for one in events}:
        those = [one for one in events if place(one) == spot]
        intervals = sorted({one[1] for one in those})
        choices = []
        for keys in [[None], intervals]:
            found = []
            for key in keys:
                lanes = {one[0] for one in those if key is None or one[1] == key}
                found.append((spot[0], spot[1], key, spot[2], lanes.pop() if len(lanes) == 1 else "all"))
            if all(slow_fits(those, one, found) for one in those):
                choices.append(found)
        rows += min(choices, key=len)
    return tuple(sorted(rows, key=lambda row: ranks([row])))


def chance_events(chance):
    """Some EVENTS, CLEAN ones about as often as others."""
    groups, lanes, cells = chance.randint(1, 3), chance.randint(1, 3), chance.choice([1, 1, 2, 3, 8])
    kinds = chance.choice([["load"], ["load", "load", "load", "store"], ["load", "store"]])
    names = chance.choice([["desk"], ["told"], ["desk", "told"], ["desk", "gifts", "told", "mine"]])
    return tuple(
        event((chance.randrange(groups), chance.randrange(lanes)), chance.randrange(3), chance.choice(kinds),
              chance.choice(names), (chance.randrange(cells),) * chance.choice([1, 1, 2]), chance.randrange(4))
        for _ in range(chance.randint(0, 10)))


def some_events():
    chance = random.Random(55)
    return [chance_events(chance) for _ in range(2500)]


LOADS = (event((0, 0), 0, "load", "told", (1, 0)), event((1, 1), 2, "load", "told", (1, 0)))
MIXED = (
    event((0, 1), 1, "load", "told", (0, 0)), event((0, 0), 0, "store", "told", (0, 0)), event((0, 0), 1, "load", "told", (0, 0)),
    event((1, 0), 0, "store", "desk", (2,)), event((1, 0), 3, "load", "desk", (2,)), event((0, 1), 0, "load", "desk", (2,)),
    event((0, 0), 0, "load", "desk", (2,)),
)
MIXED_PAPER = (
    ("desk", 0, None, (2,), "all"), ("desk", 1, None, (2,), (1, 0)), ("told", None, 0, (0, 0), (0, 0)), ("told", None, 1, (0, 0), "all"),
)


class Papers(unittest.TestCase):
    def test_by_hand(self):
        self.assertEqual(clean_paper(kernel(), ()), ())
        self.assertEqual(clean_paper(kernel(), LOADS), (("told", None, None, (1, 0), "all"),))
        self.assertEqual(clean_paper(kernel(), LOADS[:1] * 3), (("told", None, None, (1, 0), (0, 0)),))
        self.assertEqual(clean_paper(kernel=kernel(), events=list(MIXED)), MIXED_PAPER)
        # The same ones with "told" near, "desk" far: the paper is another one.
        other = (None, None, (("told", None),), None)
        self.assertIsNone(clean_paper(other, MIXED))
        self.assertEqual(clean_paper(other, MIXED[:3] + MIXED[5:]), (
            ("desk", None, None, (2,), "all"), ("told", 0, 0, (0, 0), (0, 0)), ("told", 0, 1, (0, 0), "all")))

    def test_against_the_words_of_the_document(self):
        seen = {True: 0, False: 0}
        for events in some_events():
            with Kept(self, events):
                paper = clean_paper(kernel(), events)
            clean = slow_clash_of(kernel(), events) is None
            seen[clean] += 1
            if clean:
                self.assertEqual(paper, slow_paper(events))
                self.assertIsNone(check_clean(kernel(), events, paper))
            else:
                self.assertIsNone(paper)
        self.assertGreater(min(seen.values()), 300)

    def test_each_row_is_wanted(self):
        for events in some_events():
            paper = clean_paper(kernel(), events)
            for number in range(len(paper or ())):
                less = paper[:number] + paper[number + 1:]
                refused(self, BadPaper, "about", *slow_check(events, less), check_clean, kernel(), events, less)

    def test_papers_bent(self):
        chance = random.Random(5)
        seen = {True: 0, False: 0}
        for events in some_events():
            paper = list(clean_paper(kernel(), events) or ())
            for _ in range(4):
                bent = list(paper)
                spot = event((chance.randrange(2), 0), 0, "load", chance.choice(["desk", "told"]), (chance.randrange(3),))
                for number in range(len(bent)):
                    row = bent[number]
                    more = chance.choice([row, row, (*row[:2], chance.choice([None, 0, 1]), *row[3:]),
                                          (*row[:4], chance.choice(["all", (0, 0), (1, 0)]))])
                    bent[number] = more
                if chance.randrange(3) == 0:
                    bent.append((*place(spot)[:2], chance.choice([None, 0, 1]), place(spot)[2], chance.choice(["all", (0, 0)])))
                if chance.randrange(8):
                    bent = [row for _, row in sorted({rank: row for rank, row in zip(ranks(bent), bent)}.items())]
                bent = tuple(bent)
                due = slow_check(events, bent)
                seen[due is None] += 1
                if due is None:
                    self.assertIsNone(check_clean(kernel(), events, bent))
                else:
                    refused(self, BadPaper, "about", *due, check_clean, kernel(), events, bent)
        self.assertGreater(min(seen.values()), 500)

    def test_what_fits_shows_that_nothing_clashes(self):
        """Whatever paper is taken, EVENTS that CLASH never all FIT."""
        for events in some_events():
            if clash_of(kernel(), events) is not None:
                for who in ["all", (0, 0), (1, 1)]:
                    for keys in [(None,), (0, 1, 2)]:
                        paper = tuple(sorted({(*place(one)[:2], key, place(one)[2], who) for one in events for key in keys},
                                             key=lambda row: ranks([row])))
                        with self.assertRaises(BadPaper):
                            check_clean(kernel(), events, paper)

    def test_lanes_of_unlike_groups(self):
        rows = (("told", None, 0, (1, 0), (0, 0)), ("told", None, 2, (1, 0), (1, 1)))
        refused(self, BadPaper, "about", ("event", 0), check_clean, kernel(), LOADS, rows)
        self.assertIsNone(check_clean(kernel(), LOADS[:1], rows))
        self.assertIsNone(check_clean(kernel(), LOADS[1:], rows))
        alike = (LOADS[0], event((0, 1), 2, "load", "told", (1, 0)))
        self.assertIsNone(check_clean(kernel(), alike, (rows[0], (*rows[1][:4], (0, 1)))))
        near = tuple((*one[:4], "desk", (1,), one[6]) for one in LOADS)
        self.assertIsNone(check_clean(kernel(), near, (("desk", 0, 0, (1,), (0, 0)), ("desk", 1, 2, (1,), "all"))))
        refused(self, BadPaper, "about", ("event", 0), check_clean, kernel(), near, (("desk", 1, 0, (1,), "all"), ("desk", 1, 2, (1,), "all")))

    def test_rows_of_cells_to_which_nothing_comes(self):
        more = (("desk", 0, None, (0,), "all"), ("desk", 0, 0, (0,), (7, 7)), ("a", None, 10 ** 3000, (0, 10 ** 3000), (10 ** 3000, 0)))
        paper = tuple(sorted(MIXED_PAPER + more, key=lambda row: ranks([row])))
        self.assertIsNone(check_clean(kernel(), MIXED, paper))
        self.assertIsNone(check_clean(kernel(), (), paper))
        # One more row of a cell to which something comes does none, either, as long as none comes in its INTERVAL.
        for interval, due in [(9, None), (0, ("event", 5)), (3, None)]:
            paper = tuple(sorted(MIXED_PAPER + (("desk", 0, interval, (2,), "all"),), key=lambda row: ranks([row])))
            if due is None:
                self.assertIsNone(check_clean(kernel(), MIXED, paper))
            else:
                refused(self, BadPaper, "about", due, check_clean, kernel(), MIXED, paper)

    def bad(self, paper, events=MIXED):
        refused(self, BadPaper, "about", None, check_clean, kernel(), events, paper)

    def test_anything_as_paper(self):
        for paper in ODD_THINGS + [deep_list(MIXED_PAPER), list(MIXED_PAPER), MIXED_PAPER[0], (MIXED_PAPER,), "", "all"]:
            if not isinstance(paper, tuple) or len(paper) > 0:
                self.bad(paper)
        for part in ODD_THINGS:
            self.bad((part,) + MIXED_PAPER)
            self.bad(MIXED_PAPER[:1] + (part,))
        self.assertIsNone(check_clean(kernel(), [], ()))
        refused(self, BadPaper, "about", ("event", 0), check_clean, kernel=kernel(), events=list(MIXED), paper=())

    def test_each_part_of_a_row(self):
        odd = [thing for thing in ODD_THINGS if not isinstance(thing, int) or isinstance(thing, bool) or thing < 0]
        for row, wrong in [
                (("desk", 1, 2, (3,), (4, 5)), {0: ["told", "", "DESK", "desk ", "desktools"], 1: [None, -1, True, "0"], 2: [-1, True, (0,)]}),
                (("told", None, 2, (3, 1), "all"), {0: ["desk", "gifts"], 1: [0, -1, 5, False], 2: [-1, True, "0"]})]:
            self.assertIsNone(check_clean(kernel(), (), (row,)))
            for at, things in wrong.items():
                for thing in things + [thing for thing in odd if not (thing is None and at in (1, 2))] + ([] if at in (1, 2) else [None, 0]):
                    self.bad((with_part(row, (at,), thing),))
            for cell in odd + [0, (), (0, 0, 0), [0], (-1,), (True,), (0, -1), (0, None), ("0",), (Touchy(),)]:
                self.bad((with_part(row, (3,), cell),))
            for who in odd + [0, (), (0,), (0, 0, 0), [0, 0], (-1, 0), (0, -1), (True, 0), (0, False), ("a", "l"), "al", "All", "load", Touchy()]:
                self.bad((with_part(row, (4,), who),))
            for thing in [row[:4], row + (0,), list(row), row + ("all",), ()]:
                self.bad((thing,))
        for row in [("desk", 0, None, (0,), (0, 0)), ("told", None, None, (0, 0), "all"), ("elsewhere"[:8], None, 0, (9,), (9, 9))]:
            self.assertIsNone(check_clean(kernel(), (), (row,)))
        self.bad((("desk", 0, fifty_deep(), (0,), "all"),))

    def test_rows_rise(self):
        row = ("desk", 1, 1, (1,), "all")
        for later in [("desk", 1, 1, (1, 0), "all"), ("desk", 1, 1, (2,), (0, 0)), ("desk", 1, 2, (0,), "all"), ("desk", 2, None, (0,), "all"),
                      ("desks", None, None, (0,), "all")]:
            self.assertIsNone(check_clean(kernel(), (), (row, later)))
            self.bad((later, row))
        for same in [row, (*row[:4], (0, 0))]:
            self.bad((row, same))
            self.bad((same, row))
        for earlier in [("desk", 1, None, (9,), "all"), ("desk", 0, 9, (9,), "all"), ("abc", None, 9, (9,), "all")]:
            self.assertIsNone(check_clean(kernel(), (), (earlier, row)))
            self.bad((row, earlier))
        # Form comes ahead of EVENTS that don't FIT.
        self.bad((row, row), MIXED)


class Moved(unittest.TestCase):
    def test_words_moved(self):
        self.assertEqual(words_moved(kernel(), ()), 0)
        self.assertEqual(words_moved(kernel(), MIXED), 3)
        self.assertEqual(words_moved(kernel(nears=()), MIXED), 7)
        self.assertEqual(words_moved(kernel=(None, None, (("told", None),), None), events=list(MIXED)), 4)
        for events in some_events()[:200]:
            self.assertEqual(words_moved(kernel(), events), sum(one[4] in ("told", "mine") for one in events))

    def test_one_order(self):
        one, two, far = MIXED[0], MIXED[2], MIXED[3]
        self.assertIs(one_order((), ()), True)
        self.assertIs(one_order((one, two, far), (two, far, one)), True)
        self.assertIs(one_order([one, two], (two, one)), True)
        self.assertIs(one_order((two, MIXED[1], one), (one, MIXED[1], two)), False)
        self.assertIs(one_order((one,), (one, one)), False)
        self.assertIs(one_order((one, two), (one,)), False)
        self.assertIs(one_order((), (one,)), False)
        for at, thing in enumerate([(0, 0), 2, (1,), "store", "mine", (0, 1), 9]):
            self.assertIs(one_order(events=(one, two), others=(with_part(one, (at,), thing), two)), False)

    def test_one_order_by_chance(self):
        chance = random.Random(12)
        seen = set()
        for events in some_events()[:600]:
            others = list(events)
            chance.shuffle(others)
            with Kept(self, events, others):
                told = one_order(events, others)
            due = all([one for one in events if one[0] == who] == [one for one in others if one[0] == who]
                      for who in itertools.product(range(3), repeat=2))
            self.assertIs(told, due)
            seen.add(told)
        self.assertEqual(len(seen), 2)


class OneRunTellsOfAll(unittest.TestCase):
    def test_each_schedule(self):
        chance = random.Random(54)
        seen = 0
        for seed in range(1200):
            thing, at = chance_kernel(seed), (chance.randint(1, 3), chance.randint(1, 3))
            plain = Lanes(*HEAD, thing, at, stand_for(at, seed))
            plain.run()
            if plain.end() != ("over",) or plain.clash() is not None or len(plain.lanes_there()) < 2 or len(plain) == 0:
                continue
            seen += 1
            there = plain.lanes_there()
            for _ in range(3):
                other = Lanes(*HEAD, thing, at, stand_for(at, seed))
                other.run(tuple(chance.choice(there) for _ in range(chance.choice([5, 40, 200]))))
                self.assertEqual((other.end(), other.clash(), other.turns()), (("over",), None, plain.turns()))
                self.assertIs(one_order(plain.events(), other.events()), True)
                self.assertEqual(other.far(), plain.far())
                for paper in [clean_paper(thing, plain.events()), clean_paper(thing, other.events())]:
                    self.assertIsNone(check_clean(thing, plain.events(), paper))
                    self.assertIsNone(check_clean(thing, other.events(), paper))
                self.assertEqual(words_moved(thing, other.events()), words_moved(thing, plain.events()))
        self.assertGreater(seen, 150)

    def test_a_paper_of_a_run(self):
        thing = kernel(("store", "desk", (("lane",),), ("group",)), ("fence",), ("load", 0, "desk", (("num", 0),)),
                       ("store", "told", (("group",), ("lane",)), ("reg", 0)), ("load", 1, "gift", (("num", 0),)), count=(0, (("m", 2),)))
        at = (2, 3)
        end, _, events = run_lanes(*HEAD, thing, at, stand_for(at))
        self.assertEqual(end, ("over",))
        self.assertEqual(clean_paper(thing, events), (
            ("desk", 0, None, (1,), (0, 1)), ("desk", 0, 0, (0,), (0, 0)), ("desk", 0, 1, (0,), "all"),
            ("desk", 1, None, (1,), (1, 1)), ("desk", 1, 0, (0,), (1, 0)), ("desk", 1, 1, (0,), "all"), ("gift", None, None, (0,), "all"),
            ("told", None, None, (0, 0), (0, 0)), ("told", None, None, (0, 1), (0, 1)), ("told", None, None, (1, 0), (1, 0)),
            ("told", None, None, (1, 1), (1, 1))))
        self.assertEqual(words_moved(thing, events), 8)


if __name__ == "__main__":
    unittest.main()
