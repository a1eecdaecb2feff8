"""[30] to [34]: TURNS, their CASES and PAPERS, and that SAFE ones keep what comes."""

import itertools
import unittest

from lanewright.errors import BadNumber, BadPaper, BadProgram, BadTurn, Unsafe
from lanewright.plain import plain_run, reads, tale
from lanewright.programs import accesses_of, need_program
from lanewright.turns import (
    case_binds, cases, check_turn, is_safe, need_turn, reversed_by, safely, turn_paper, turned,
)
from tests.helper import (
    CROSS, LINE, MORE_PROGRAMS, ODD_NUMBERS, ODD_THINGS, PRODUCT, ROWS, Kept, Touchy, access_at, add, at, by, chance_program, deep_list,
    fixed, given_for, is_bound, is_ring, loops_at, num, put, refused, sides_of, slow_binds, slow_meeting, with_part,
)

SOME = MORE_PROGRAMS + [chance_program(seed) for seed in range(60)]


def many_nests(many, *steps, loops=(("i", by("m")),)):
    return (("m",), (("a", "told", (by("m", 1, 9),)), ("b", "own", (by("m", 1, 9),))), ((loops, steps or (add("a", (("i", 0),), num(1)),)),) * many)


def turns_of(program):
    """All TURNS of a PROGRAM, by the words of the document."""
    found = []
    nests = program[2]
    for n, (loops, steps) in enumerate(nests):
        if n + 1 < len(nests):
            found.append(("part", n))
            many = len(accesses_of(program, n)) + len(accesses_of(program, n + 1))
            if nests[n + 1][0] == loops and len(steps) + len(nests[n + 1][1]) <= 4 and many <= 24:
                found.append(("fuse", n))
        if len(nests) < 5:
            found.extend(("split", n, k) for k in range(1, len(steps)))
        found.extend(("swap", n, order) for order in itertools.permutations(range(len(loops))))
    return sorted(found)


def slow_turned(program, turn):
    """What comes, built anew of deep lists."""
    nests = [(list(loops), list(steps)) for loops, steps in program[2]]
    n = turn[1]
    if turn[0] == "fuse":
        nests[n:n + 2] = [(nests[n][0], nests[n][1] + nests[n + 1][1])]
    elif turn[0] == "part":
        nests[n:n + 2] = nests[n:n + 2][::-1]
    elif turn[0] == "split":
        nests[n:n + 1] = [(nests[n][0], nests[n][1][:turn[2]]), (nests[n][0], nests[n][1][turn[2]:])]
    else:
        nests[n] = ([nests[n][0][k] for k in turn[2]], nests[n][1])
    return (program[0], program[1], tuple((tuple(loops), tuple(steps)) for loops, steps in nests))


def place_behind(program, turn, nest, step, spots):
    """The (NEST, STEP, ROUND) that a STEP in a ROUND has behind a TURN."""
    word, n = turn[0], turn[1]
    many = len(program[2][n][1])
    if word == "fuse":
        return (n, step + many, spots) if nest == n + 1 else (nest - (nest > n), step, spots)
    if word == "part":
        return ({n: n + 1, n + 1: n}.get(nest, nest), step, spots)
    if word == "split":
        return (n + 1, step - turn[2], spots) if nest == n and step >= turn[2] else (nest + (nest > n), step, spots)
    return (nest, step, tuple(spots[k] for k in turn[2]) if nest == n else spots)


def slow_cases(program, turn):
    word, n = turn[0], turn[1]
    first, second = sides_of(program, [n]), sides_of(program, [n + 1] if n + 1 < len(program[2]) else [])
    many = len(loops_at(program, (n, 0)))
    late = [("=",) * k + (">",) + ("*",) * (many - k - 1) for k in range(many)]
    if word == "part":
        pairs, patterns = itertools.product(first, second), [()]
    elif word == "fuse":
        pairs, patterns = itertools.product(first, second), late
    elif word == "split":
        steps = [step for step, _ in accesses_of(program, n)]
        pairs = itertools.product([s for s in first if steps[s[1]] < turn[2]], [s for s in first if steps[s[1]] >= turn[2]])
        patterns = late
    else:
        pairs, patterns = itertools.product(first, first), []
        rank = {"<": 0, "=": 1, ">": 2}
        for pattern in itertools.product("<=>", repeat=many):
            x, y = [rank[sign] for sign in pattern], [1] * many
            if x < y and [x[k] for k in turn[2]] > y:
                patterns.append(pattern)
    return sorted((one, other, pattern) for one, other in pairs if is_bound(program, one, other) for pattern in patterns)


def reverses(program, turn):
    """Whether two ACCESSES of one cell, one of both a "store", come the other way about, by the greatest sizes."""
    sizes = (12,) * len(program[0])
    given = given_for(program, sizes)
    rows = [row[:5] + ("load",) for row in reads(program, sizes, given)] + [row[:5] + ("store",) for row in tale(program, sizes, given)]
    cells = {}
    for nest, step, spots, array, cell, kind in rows:
        behind = place_behind(program, turn, nest, step, spots)
        where = ((nest, spots, step, kind), (behind[0], behind[2], behind[1], kind))
        cells.setdefault((array, cell), []).append(where)
    for places in cells.values():
        last_store = last = (-1,)
        for before, behind in sorted(places):
            if behind < (last if before[3] == "store" else last_store):
                return True
            last = max(last, behind)
            if before[3] == "store":
                last_store = max(last_store, behind)
    return False


class Forms(unittest.TestCase):
    def bad(self, about, program, turn):
        for call, rest in [(need_turn, ()), (turned, ()), (cases, ()), (case_binds, (None,)), (reversed_by, ()), (is_safe, ()), (safely, ()),
                           (turn_paper, ()), (check_turn, (None,))]:
            refused(self, BadTurn, "about", about, call, program, turn, *rest)

    def test_all_turns_are_good_and_no_others(self):
        for program in SOME:
            good = turns_of(program)
            for turn in good:
                with Kept(self, program, turn):
                    self.assertIsNone(need_turn(program, turn))
            tries = [(word, n) for word in ("fuse", "part") for n in range(-1, 6)]
            tries += [("split", n, k) for n in range(-1, 6) for k in range(-1, 6)]
            tries += [("swap", n, order) for n in range(-1, 6) for many in range(4) for order in itertools.product(range(many + 1), repeat=many)]
            for turn in tries:
                if turn not in good:
                    self.assertRaises(BadTurn, need_turn, program, turn)
        self.assertIsNone(need_turn(program=LINE, turn=("fuse", 0)))

    def test_none_of_no_form(self):
        for turn in ODD_THINGS + [
                ("fuse",), ("fuse", 0, 0), ["fuse", 0], ("fuse", 0, ()), ("part",), ("part", 0, 1), ("split", 0), ("split", 0, 1, 1), ("swap", 0),
                ("swap", 0, (0,), 0), ("Fuse", 0), ("fly", 0), ("fly", 0, 1), ("", 0), (b"fuse", 0), (("fuse",), 0), (Touchy(), 0, 1), "fuse 0",
                ("fuse0", 0), ("fus", 0), ("put", 0, 1), (None, None), deep_list(("swap", 0, (0,)))]:
            self.bad(None, LINE, turn)

    def test_one_of_no_nest(self):
        for number in ODD_NUMBERS + [3]:
            for turn in [("fuse", number), ("part", number), ("split", number, 1), ("swap", number, (0,)), ("split", number, None),
                         ("swap", number, None)]:
                self.bad(1, LINE, turn)
        self.bad(1, LINE, ("fuse", 2))
        self.bad(1, LINE, ("part", 2))
        self.bad(1, PRODUCT, ("fuse", 0))
        self.bad(1, PRODUCT, ("part", 0))
        self.assertIsNone(need_turn(LINE, ("part", 1)))
        self.assertIsNone(need_turn(LINE, ("swap", 2, (1, 0))))

    def test_two_of_no_place_to_split(self):
        for number in ODD_NUMBERS + [0, 2]:
            self.bad(2, LINE, ("split", 0, number))
        self.bad(2, LINE, ("split", 2, 1))
        self.bad(2, many_nests(5), ("split", 0, 1))
        self.bad(2, CROSS, ("split", 0, 3))
        self.assertIsNone(need_turn(CROSS, ("split", 0, 2)))
        self.assertIsNone(need_turn(CROSS, ("split", 0, 1)))

    def test_two_of_no_order(self):
        for order in ODD_THINGS + [(0, 1), (0, 1, 3), (1, 2, 3), (0, 0, 1), [0, 1, 2], (0, 1, 2, 2), (0, 1, True), ("0", "1", "2"), "012",
                                   (-1, 0, 1), (0, 1, 10 ** 3999), (0, Touchy(), 1)]:
            self.bad(2, PRODUCT, ("swap", 0, order))
        self.bad(2, LINE, ("swap", 2, (0,)))
        for order in itertools.permutations(range(3)):
            self.assertIsNone(need_turn(PRODUCT, ("swap", 0, order)))
        self.assertIsNone(need_turn(LINE, ("swap", 0, (0,))))

    def test_three_of_unlike_loops(self):
        self.bad(3, LINE, ("fuse", 1))
        self.bad(3, CROSS, ("fuse", 1))
        self.bad(3, CROSS, ("fuse", 2))
        for loops in [(("j", by("m")),), (("i", by("m", 2, -1)),), (("i", fixed(9)),), (("i", by("m")), ("j", fixed(1)))]:
            steps = (add("a", (("", 0),), num(1)),)
            program = many_nests(2, *steps)
            self.bad(3, with_part(program, (2, 1, 0), loops), ("fuse", 0))
            self.assertIsNone(need_turn(program, ("fuse", 0)))

    def test_three_of_too_many_steps(self):
        step = put("a", (("i", 0),), num(1))
        program = many_nests(2, step, step)
        self.assertIsNone(need_turn(program, ("fuse", 0)))
        self.bad(3, with_part(program, (2, 0, 1), (step,) * 3), ("fuse", 0))
        self.bad(3, with_part(program, (2, 1, 1), (step,) * 3), ("fuse", 0))
        self.assertIsNone(need_turn(with_part(with_part(program, (2, 1, 1), (step,) * 3), (2, 0, 1), (step,)), ("fuse", 0)))

    def test_three_of_too_many_accesses(self):
        def loads(many):
            expr = at("a", ("i", 0))
            rows = [expr] * many
            while len(rows) > 1:
                rows = [("add", *pair) if len(pair) == 2 else pair[0] for pair in (rows[k:k + 2] for k in range(0, len(rows), 2))]
            return rows[0]
        small, great = put("b", (("i", 0),), loads(11)), put("b", (("i", 0),), loads(12))
        program = many_nests(2, small)
        self.assertEqual(len(accesses_of(turned(program, ("fuse", 0)), 0)), 24)
        self.bad(3, with_part(program, (2, 1, 1, 0), great), ("fuse", 0))
        self.bad(3, with_part(program, (2, 0, 1, 0), great), ("fuse", 0))

    def test_three_of_too_many_nests(self):
        two = (put("a", (("i", 0),), num(1)), add("a", (("i", 0),), num(1)))
        self.assertIsNone(need_turn(many_nests(4, *two), ("split", 3, 1)))
        self.assertEqual(len(turned(many_nests(4, *two), ("split", 3, 1))[2]), 5)
        self.bad(3, many_nests(5, *two), ("split", 3, 1))
        self.assertIsNone(need_turn(many_nests(5, *two), ("fuse", 3)))

    def test_programs_ahead(self):
        for call, rest in [(need_turn, ()), (turned, ()), (cases, ()), (case_binds, (None,)), (reversed_by, ()), (is_safe, ()), (safely, ()),
                           (turn_paper, ()), (check_turn, (None,))]:
            for thing in ODD_THINGS + [deep_list(LINE)]:
                if not isinstance(thing, tuple) or len(thing) != 3:
                    refused(self, BadProgram, "place", None, call, thing, None, *rest)
            refused(self, BadProgram, "place", ("nest", 2, "step", 0), call, with_part(LINE, (2, 2, 1, 0, 3), None), None, *rest)


class Turned(unittest.TestCase):
    def test_by_hand(self):
        first, second, last = LINE[2]
        self.assertEqual(turned(program=LINE, turn=("fuse", 0)), LINE[:2] + (((first[0], first[1] + second[1]), last),))
        self.assertEqual(turned(LINE, ("part", 1)), LINE[:2] + ((first, last, second),))
        self.assertEqual(turned(LINE, ("split", 1, 1)), LINE[:2] + ((first, (second[0], second[1][:1]), (second[0], second[1][1:]), last),))
        loops, steps = PRODUCT[2][0]
        self.assertEqual(turned(PRODUCT, ("swap", 0, (2, 0, 1))), PRODUCT[:2] + (((loops[2:] + loops[:2], steps),),))
        self.assertEqual(turned(PRODUCT, ("swap", 0, (0, 1, 2))), PRODUCT)

    def test_each_turn_leads_to_a_program(self):
        for program in SOME:
            for turn in turns_of(program):
                with Kept(self, program, turn):
                    told = turned(program, turn)
                self.assertEqual(told, slow_turned(program, turn))
                self.assertIsNone(need_program(told))


class Cases(unittest.TestCase):
    def test_by_hand(self):
        self.assertEqual(cases(program=LINE, turn=("part", 1)), [])
        self.assertEqual(cases(LINE, ("fuse", 0)), [((0, 3), (1, 1), (">",)), ((0, 3), (1, 3), (">",))])
        self.assertEqual(cases(PRODUCT, ("swap", 0, (1, 0, 2))), [
            ((0, one), (0, other), ("<", ">", sign)) for one, other in [(2, 3), (3, 2), (3, 3)] for sign in "<=>"])
        self.assertEqual(cases(PRODUCT, ("swap", 0, (0, 1, 2))), [])
        self.assertEqual(cases(ROWS, ("split", 0, 1)), [
            ((0, 2), (0, other), pattern) for other in (3, 4) for pattern in [("=", ">"), (">", "*")]])
        self.assertEqual(cases(ROWS, ("part", 1)), [((1, 1), (2, 3), ()), ((1, 2), (2, 2), ()), ((1, 2), (2, 3), ())])

    def test_against_another_reckoning(self):
        seen = set()
        for program in SOME:
            for turn in turns_of(program):
                with Kept(self, program, turn):
                    told = cases(program, turn)
                self.assertEqual(told, slow_cases(program, turn))
                seen.add((turn[0], len(told) > 0))
                told.append(None)
                self.assertEqual(cases(program, turn), told[:-1])
        self.assertEqual(len(seen), 8)

    def test_binds(self):
        many = 0
        for program in SOME[::2]:
            for turn in turns_of(program):
                for number, (one, other, pattern) in list(enumerate(cases(program, turn)))[::4]:
                    with Kept(self, program, turn):
                        told = case_binds(program, turn, number)
                    self.assertEqual(told, slow_binds(program, one, other, pattern))
                    told.clear()
                    self.assertGreater(len(case_binds(program, turn, number)), 0)
                    many += 1
        self.assertGreater(many, 300)

    def test_binds_of_unlike_loops_by_hand(self):
        x0, y0, y1 = ("x", 0), ("y", 0), ("y", 1)
        self.assertEqual(case_binds(program=ROWS, turn=("part", 1), number=0), [
            (0, x0, 0), (x0, 0, 11), (0, y0, 0), (y0, 0, 11), (0, y1, 0), (y1, 0, 11), (x0, y0, 0), (y0, x0, 0)])

    def test_numbers(self):
        due = len(cases(ROWS, ("split", 0, 1)))
        for number in ODD_NUMBERS + [due]:
            refused(self, BadNumber, "about", number, case_binds, ROWS, ("split", 0, 1), number)
        refused(self, BadNumber, "about", 0, case_binds, PRODUCT, ("swap", 0, (0, 1, 2)), 0)
        case_binds(ROWS, ("split", 0, 1), due - 1)


class Safe(unittest.TestCase):
    def test_by_hand(self):
        self.assertIsNone(reversed_by(PRODUCT, ("swap", 0, (2, 1, 0))))
        self.assertIs(is_safe(PRODUCT, ("swap", 0, (2, 1, 0))), True)
        self.assertEqual(safely(program=PRODUCT, turn=("swap", 0, (2, 1, 0))), turned(PRODUCT, ("swap", 0, (2, 1, 0))))
        self.assertIs(is_safe(program=LINE, turn=("part", 0)), False)
        told = ((0, 3), (1, 1), ((12,), (0,), (0,)))
        self.assertEqual(reversed_by(program=LINE, turn=("part", 0)), told)
        refused(self, Unsafe, "meeting", told, safely, LINE, ("part", 0))

    def test_fused_neighbours(self):
        """A nest that loads one cell further on than the nest ahead stores may not go beside it."""
        for more, good in [(0, True), (1, False)]:
            program = many_nests(2, put("a", (("i", 0),), num(1)))
            program = with_part(program, (2, 1, 1), (put("b", (("i", 0),), at("a", ("i", more))),))
            self.assertIs(is_safe(program, ("fuse", 0)), good)
        self.assertEqual(reversed_by(program, ("fuse", 0)), ((0, 0), (1, 0), ((12,), (1,), (0,))))

    def test_against_all_rounds(self):
        seen = set()
        for program in SOME:
            for turn in turns_of(program):
                due = reverses(program, turn)
                with Kept(self, program, turn):
                    self.assertIs(is_safe(program, turn), not due, (program, turn))
                    told = reversed_by(program, turn)
                    paper = turn_paper(program, turn)
                self.assertEqual(told is not None, due)
                self.assertEqual(paper is None, due)
                seen.add((turn[0], due))
                if due:
                    refused(self, Unsafe, "meeting", told, safely, program, turn)
                else:
                    self.assertEqual(safely(program, turn), slow_turned(program, turn))
                    self.assertEqual(check_turn(program, turn, paper), slow_turned(program, turn))
        self.assertEqual(len(seen), 8)

    def test_the_first_meeting_is_told(self):
        seen = set()
        for number, program in enumerate(SOME):
            for turn in turns_of(program):
                told = reversed_by(program, turn)
                if told is not None and (turn[0] not in seen or number % 3 == 0):
                    for one, other, pattern in cases(program, turn):
                        met = slow_meeting(program, one, other, pattern)
                        if met is not None:
                            self.assertEqual(told, (one, other, met))
                            break
                    else:
                        self.fail("it is safe")
                    seen.add(turn[0])
        self.assertEqual(seen, {"fuse", "part", "split", "swap"})

    def test_safe_turns_keep(self):
        seen = set()
        for program in MORE_PROGRAMS + [chance_program(seed) for seed in range(120)]:
            for turn in turns_of(program):
                if is_safe(program, turn):
                    for sizes in [(1,) * len(program[0]), (4, 3, 2)[:len(program[0])], (2, 5, 3)[:len(program[0])]]:
                        self.keeps(program, turn, sizes)
                    seen.add(turn[0])
        self.assertEqual(len(seen), 4)

    def keeps(self, program, turn, sizes):
        behind = safely(program, turn)
        for seed in (0, 1):
            given = given_for(program, sizes, seed)
            self.assertEqual(plain_run(behind, sizes, given), plain_run(program, sizes, given))
            self.assertEqual(self.stores(behind, sizes, given), self.stores(program, sizes, given))
            told = {}
            for nest, step, spots, *rest in reads(program, sizes, given):
                told.setdefault(place_behind(program, turn, nest, step, spots), []).append(rest)
            there = {}
            for nest, step, spots, *rest in reads(behind, sizes, given):
                there.setdefault((nest, step, spots), []).append(rest)
            self.assertEqual(there, told)

    def stores(self, program, sizes, given):
        cells = {}
        for _, _, _, array, cell, word in tale(program, sizes, given):
            cells.setdefault((array, cell), []).append(word)
        return cells


class Papers(unittest.TestCase):
    def test_each_ring_is_one(self):
        for program in SOME:
            for turn in turns_of(program):
                paper = turn_paper(program, turn)
                if paper is not None:
                    self.assertIs(type(paper), tuple)
                    due = cases(program, turn)
                    self.assertEqual(len(paper), len(due))
                    for case, ring in zip(due, paper):
                        self.assertIsNone(is_ring(slow_binds(program, *case), ring))
        self.assertEqual(turn_paper(PRODUCT, ("swap", 0, (0, 1, 2))), ())
        self.assertEqual(turn_paper(program=LINE, turn=("part", 1)), ())
        self.assertEqual(check_turn(program=LINE, turn=("part", 1), paper=()), turned(LINE, ("part", 1)))

    def test_spoilt_papers(self):
        for program, turn in [(PRODUCT, ("swap", 0, (1, 2, 0))), (LINE, ("fuse", 0)), (ROWS, ("split", 0, 1))]:
            paper = turn_paper(program, turn)
            for thing in ODD_THINGS + [paper[:-1], paper + ((0,),), paper + paper[-1:], list(paper), deep_list(paper), paper * 2]:
                if not isinstance(thing, tuple) or len(thing) != len(paper):
                    refused(self, BadPaper, "about", None, check_turn, program, turn, thing)
            for number, ring in enumerate(paper):
                for thing in ODD_THINGS + [list(ring), ring[1:], ring + (99,), ring[::-1], ring * 2, (0,), (str(ring[0]),) + ring[1:]]:
                    refused(self, BadPaper, "about", number, check_turn, program, turn, with_part(paper, (number,), thing))

    def test_the_first_spoilt_ring_is_told(self):
        turn = ("swap", 0, (2, 1, 0))
        paper = turn_paper(PRODUCT, turn)
        for first, second in itertools.combinations(range(len(paper)), 2):
            refused(self, BadPaper, "about", first, check_turn, PRODUCT, turn, with_part(with_part(paper, (second,), None), (first,), ()))

    def test_of_an_unsafe_turn_none_is_a_paper(self):
        self.assertIsNone(turn_paper(LINE, ("part", 0)))
        many = len(cases(LINE, ("part", 0)))
        refused(self, BadPaper, "about", None, check_turn, LINE, ("part", 0), ((0,),) * (many - 1))
        refused(self, BadPaper, "about", 0, check_turn, LINE, ("part", 0), ((0, 1),) * many)
        refused(self, BadPaper, "about", 0, check_turn, LINE, ("part", 0), ((),) * many)

    def test_the_accesses_are_those_of_the_nests(self):
        self.assertEqual([access_at(LINE, side)[:2] for side in ((0, 3), (1, 1), (1, 3))],
                         [("store", "near"), ("load", "near"), ("load", "near")])


if __name__ == "__main__":
    unittest.main()
