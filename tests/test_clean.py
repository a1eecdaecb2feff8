"""[53]: EVENTS that CLASH."""

import itertools
import random
import unittest

from lanewright.clean import clash_of
from tests.helper import NEARS, Kept, kernel


def event(who, interval, kind, name, cell, word=0, path=(0,)):
    return (who, interval, path, kind, name, cell, word)


def clash(one, other, near):
    """By the words of the document."""
    unlike = one[0] != other[0]
    one_cell = (one[4], one[5]) == (other[4], other[5]) and (one[4] not in near or one[0][0] == other[0][0])
    return unlike and one_cell and "store" in (one[3], other[3]) and (one[0][0] != other[0][0] or one[1] == other[1])


def slow_clash_of(thing, events):
    near = [row[0] for row in thing[2]]
    for number, there in enumerate(events):
        for ahead in events[:number]:
            if clash(ahead, there, near):
                return (ahead, there)
    return None


class Clashes(unittest.TestCase):
    def both(self, one, other, due):
        for events in [(one, other), (other, one)]:
            self.assertEqual(clash_of(kernel(), events), events if due else None)

    def test_two_by_hand(self):
        for who, there, interval, later, near, far in [
                ((0, 0), (0, 1), 0, 0, True, True), ((0, 0), (0, 1), 0, 1, False, False), ((0, 0), (0, 0), 0, 0, False, False),
                ((0, 0), (1, 0), 0, 0, False, True), ((0, 0), (1, 0), 0, 7, False, True), ((0, 1), (1, 0), 2, 2, False, True),
                ((2, 1), (2, 0), 3, 3, True, True), ((0, 0), (0, 0), 0, 5, False, False)]:
            for kinds in itertools.product(["load", "store"], repeat=2):
                stored = "store" in kinds
                for name, due in [("desk", near), ("told", far)]:
                    one, other = event(who, interval, kinds[0], name, (1,)), event(there, later, kinds[1], name, (1,), path=(5, 2))
                    self.both(one, other, due and stored)
                    self.both(one, event(there, later, kinds[1], name, (2,)), False)
                    self.both(one, event(there, later, kinds[1], "other", (1,)), False)

    def test_the_first_and_the_first_ahead_of_it(self):
        load, again = event((0, 0), 0, "load", "told", (0, 0)), event((0, 2), 0, "load", "told", (0, 0), 3)
        store, later = event((0, 1), 0, "store", "told", (0, 0)), event((0, 3), 0, "store", "told", (0, 0))
        self.assertEqual(clash_of(kernel=kernel(), events=(load, again, store, later)), (load, store))
        self.assertEqual(clash_of(kernel(), (store, load, again)), (store, load))
        self.assertEqual(clash_of(kernel(), (again, load, load)), None)
        own = event((0, 1), 0, "load", "told", (0, 0))
        self.assertEqual(clash_of(kernel(), (own, store, again)), (store, again))
        self.assertIsNone(clash_of(kernel(), ()))
        self.assertIsNone(clash_of(kernel(), (store,) * 5))

    def test_nothing_of_a_kernel_but_its_near_names_is_looked_at(self):
        events = (event((0, 0), 0, "store", "desk", (0,)), event((1, 0), 0, "store", "desk", (0,)))
        self.assertIsNone(clash_of((None, None, (("desk", None),), None), events))
        self.assertEqual(clash_of((None, None, (("gifts", None),), None), events), events)

    def test_by_chance(self):
        chance = random.Random(8)
        seen = {True: 0, False: 0}
        for _ in range(3000):
            groups, lanes, cells = chance.randint(1, 3), chance.randint(1, 3), chance.randint(1, 8)
            events = tuple(
                event((chance.randrange(groups), chance.randrange(lanes)), chance.randrange(3), chance.choice(["load", "load", "store"]),
                      chance.choice(["desk", "gifts", "told", "mine"]), (chance.randrange(cells),), chance.randrange(4))
                for _ in range(chance.randint(0, 14)))
            with Kept(self, events):
                told = clash_of(kernel(nears=NEARS), events)
            self.assertEqual(told, slow_clash_of(kernel(nears=NEARS), events))
            seen[told is None] += 1
        self.assertGreater(min(seen.values()), 500)

    def test_many_events(self):
        events = [event((0, lane), interval, "store", "told", (0, lane)) for interval in range(300) for lane in range(8)]
        events += [event((0, 3), 300, "store", "told", (0, 0)), event((0, 0), 300, "load", "told", (0, 0))]
        self.assertEqual(clash_of(kernel(), tuple(events)), tuple(events[-2:]))


if __name__ == "__main__":
    unittest.main()
