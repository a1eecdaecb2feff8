"""[73], [74]: a WORK, its EDITS and its LOG."""

import random
import unittest

from lanewright.compiled import kernel_of
from lanewright.errors import BadGiven, BadKind, BadNumber, BadPlan, BadProgram, BadSizes, BadTurn, Gone, Unfit, Unsafe
from lanewright.leastplan import least_plan
from lanewright.ledger import all_safe, check_ledger
from lanewright.loose import free_loops
from lanewright.plain import plain_run
from lanewright.plans import moved, near_words, plain_plans
from lanewright.turns import is_safe, reversed_by, turn_paper, turned
from lanewright.work import Work
from tests.helper import (
    DENSE, LINE, MORE_PROGRAMS, ODD_NUMBERS, ODD_THINGS, PRODUCT, ROWS, Kept, Touchy, add, at, by, chance_program, count_of, given_for, num,
    put, refused, with_part,
)
from tests.test_compiled import EMPTY
from tests.test_led import GIVEN, PLAIN, TIGHT, TIGHT_PLANS, all_free
from tests.test_plans import ALL_USES, LOCALS, plans_of

SOME = [program for program in MORE_PROGRAMS + [ALL_USES, LOCALS, EMPTY, TIGHT] + [chance_program(seed) for seed in range(40)] if all_free(program)]
# Each nest has a FREE loop; the last two, fused, have none.
SHIFTED = (
    ("n",),
    (("a", "told", (by("n", 1, 1),)), ("b", "own", (by("n"),)), ("c", "told", (by("n"),)), ("g", "given", (by("n"),))),
    (
        ((("i", by("n")),), (put("b", (("i", 0),), at("g", ("i", 0))),)),
        ((("i", by("n")),), (put("a", (("i", 1),), ("add", at("b", ("i", 0)), num(1))),)),
        ((("i", by("n")),), (put("c", (("i", 0),), at("a", ("i", 0))),)),
    ),
)


def noughts(program, sizes):
    rows = []
    for _, kind, dims in program[1]:
        many = 1
        for dim in dims:
            many *= count_of(dim, dict(zip(program[0], sizes)))
        rows += [(0,) * many] * (kind == "given")
    return tuple(rows)


class Model:
    """A WORK by the words of the document: how it stands is reckoned anew from all EDITS that stand."""

    def __init__(self, program):
        ones = (1,) * len(program[0])
        self.first = (program, plain_plans(program), ones, noughts(program, ones), [])
        self.edits, self.undone, self.log = [], [], []

    def now(self, edits=None):
        state = self.first
        for edit in self.edits if edits is None else edits:
            state = self.behind(state, edit)
        return state

    def behind(self, state, edit):
        """How it stands behind a good EDIT."""
        program, plans, sizes, given, turns = state
        word, rest = edit[0], edit[1:]
        if word == "many":
            for part in rest[0]:
                state = self.behind(state, part)
            return state
        if word == "sizes":
            return program, plans, *rest, turns
        plans = list(plans)
        if word in ("plan", "least"):
            plans[rest[0]] = rest[1] if word == "plan" else least_plan(program, rest[0], sizes)
            return program, plans, sizes, given, turns
        kind, nest = rest[0][:2]
        program = turned(program, rest[0])
        plain = plain_plans(program)
        plans = {
            "part": lambda: plans[:nest] + [plans[nest + 1], plans[nest]] + plans[nest + 2:],
            "fuse": lambda: plans[:nest] + [plain[nest]] + plans[nest + 2:],
            "split": lambda: plans[:nest] + [plain[nest], plain[nest + 1]] + plans[nest + 1:],
            "swap": lambda: plans[:nest] + [plain[nest]] + plans[nest + 1:]}[kind]()
        return program, plans, sizes, given, turns + [rest[0]]

    def note(self, word, end):
        self.log += [("begin", word), ("end", word, end)]


def look(case, work, model):
    program, plans, sizes, given, turns = model.now()
    case.assertEqual((work.program(), work.plans(), work.sizes(), work.given()), (program, plans, sizes, given))
    case.assertEqual((work.edits(), work.log(), len(work), repr(work)), (model.edits, tuple(model.log), len(model.edits), f"Work({len(model.edits)})"))
    case.assertEqual([turn for turn, _ in work.ledger()], turns)


def good_edit(chance, state):
    """An EDIT that can be done."""
    program, plans, sizes, _, _ = state
    word = chance.choice(["turn", "turn", "turn", "plan", "plan", "least", "sizes"])
    nest = chance.randrange(len(program[2]))
    if word == "turn":
        turns = [turn for turn in all_safe(program, nest) if all_free(turned(program, turn))]
        return ("turn", chance.choice(turns)) if turns else ("least", nest)
    if word == "plan":
        loop = chance.choice(free_loops(program, nest))
        fit = [plan for plan in plans_of(program, nest, loop, chance.randint(1, 8)) if near_words(program, nest, plan, sizes) <= 64]
        return ("plan", nest, chance.choice(fit))
    if word == "least":
        return ("least", nest)
    for _ in range(9):
        sizes = tuple(chance.choice([1, 2, 3, 4]) for _ in program[0])
        if all(near_words(program, nest, plan, sizes) <= 64 for nest, plan in enumerate(plans)):
            return ("sizes", sizes, given_for(program, sizes, chance.randrange(50)))
    return ("least", nest)


class Edits(unittest.TestCase):
    def test_how_it_begins(self):
        for program in SOME[:20]:
            ones = (1,) * len(program[0])
            with Kept(self, program):
                work = Work(program)
            self.assertEqual((work.program(), work.plans(), work.sizes(), work.given()), (program, plain_plans(program), ones, noughts(program, ones)))
            self.assertEqual((work.edits(), work.log(), work.ledger(), len(work), repr(work)), ([], (), (), 0, "Work(0)"))
            self.assertEqual(work.result(), plain_run(program, ones, noughts(program, ones)))
            sizes = (3, 2, 4)[:len(program[0])]
            given = given_for(program, sizes, 5)
            other = Work(program=program, sizes=sizes, given=given)
            self.assertEqual((other.sizes(), other.given(), other.result()), (sizes, given, plain_run(program, sizes, given)))
            self.assertEqual(Work(program, sizes=sizes).given(), noughts(program, sizes))
            self.assertEqual(Work(program, sizes=None, given=noughts(program, ones)).given(), noughts(program, ones))
            self.assertEqual(Work(program, given=None).sizes(), ones)

    def test_by_chance(self):
        chance = random.Random(73)
        done = {}
        for program in SOME:
            work, model = Work(program), Model(program)
            for _ in range(20):
                way = chance.choice(["do", "do", "do", "many", "undo", "redo", "wrong"])
                if way in ("do", "many"):
                    edit = good_edit(chance, model.now())
                    if way == "many":
                        parts = []
                        for _ in range(chance.randint(1, 8)):
                            parts.append(good_edit(chance, model.now(model.edits + parts)))
                        edit = ("many", tuple(parts))
                    before = work.result()
                    with Kept(self, edit):
                        self.assertIsNone(work.do(edit))
                    model.edits.append(edit)
                    model.undone = []
                    model.note(edit[0], "done")
                    done[edit[0]] = done.get(edit[0], 0) + 1
                    if "sizes" not in [edit[0]] + [part[0] for part in (edit[1] if edit[0] == "many" else ())]:
                        self.assertEqual(work.result(), before)
                elif way == "undo":
                    self.undo(work, model)
                elif way == "redo":
                    self.redo(work, model)
                else:
                    self.wrong(work, model, chance)
                look(self, work, model)
            now, _, sizes, given, _ = model.now()
            self.assertEqual(work.result(), plain_run(program, sizes, given))
            self.assertEqual(check_ledger(program, work.ledger()), now)
        self.assertGreater(min(done.values()), 15)

    def undo(self, work, model):
        if not model.edits:
            self.gone(work.undo)
            model.note("undo", "refused")
            return
        self.assertEqual(work.undo(), model.edits[-1])
        model.undone.append(model.edits.pop())
        model.note("undo", "done")

    def redo(self, work, model):
        if not model.undone:
            self.gone(work.redo)
            model.note("redo", "refused")
            return
        self.assertEqual(work.redo(), model.undone[-1])
        model.edits.append(model.undone.pop())
        model.note("redo", "done")

    def wrong(self, work, model, chance):
        edit = chance.choice([("least", 9), ("plan", 0, PLAIN[:4]), ("turn", ("fuse", 7)), ("sizes", (13,), ()), ("least", -1)])
        if chance.randrange(3) == 0:
            good = good_edit(chance, model.now())
            edit = ("many", (good, edit)) if chance.randrange(2) else ("many", (good, edit, Touchy()))
        error = BadKind if isinstance(edit[1], tuple) and len(edit[1]) == 3 and edit[0] == "many" else (BadNumber, BadPlan, BadTurn, BadSizes)
        with self.assertRaises(error):
            work.do(edit)
        if error is not BadKind:
            model.note(edit[0], "refused")

    def gone(self, call):
        with self.assertRaises(Gone) as seen:
            call()
        self.assertIs(type(seen.exception), Gone)

    def test_which_nests_keep_their_plans(self):
        rows = ((0, 4, (), (), ()), (0, 3, (), ("out",), ()), (0, 2, (), ("out",), ()))
        work = Work(ROWS, sizes=(3, 2))
        for nest, plan in enumerate(rows):
            work.do(("plan", nest, plan))
        self.assertEqual(work.plans(), list(rows))
        for turn, due in [
                (("split", 0, 1), [PLAIN, PLAIN, rows[1], rows[2]]), (("swap", 0, (1, 0)), [(1, 1, (), (), ()), *rows[1:]]),
                (("swap", 2, (0, 1)), [*rows[:2], PLAIN]), (("swap", 1, (0,)), [rows[0], PLAIN, rows[2]])]:
            self.assertIs(is_safe(ROWS, turn), True)
            work.do(("turn", turn))
            self.assertEqual(work.plans(), due)
            self.assertEqual(work.undo(), ("turn", turn))
            self.assertEqual(work.plans(), list(rows))
        work.do(("turn", ("split", 0, 1)))
        work.do(("plan", 1, (0, 8, (), ("row",), ())))
        work.do(("plan", 0, (1, 7, (), (), ())))
        work.do(("turn", ("fuse", 0)))
        self.assertEqual(work.plans(), [PLAIN, *rows[1:]])

    def test_by_part_plans_go_along(self):
        loops = (("i", by("n")),)
        program = (("n",), (("a", "told", (by("n"),)), ("b", "told", (by("n"),)), ("c", "told", (by("n"),))), (
            (loops, (put("a", (("i", 0),), num(1)),)), (loops, (put("b", (("i", 0),), num(2)),)), (loops, (put("c", (("i", 0),), num(3)),))))
        work = Work(program)
        plans = [(0, 2, (), ("a",), ()), (0, 3, (), (), ()), (0, 4, (), ("c",), ())]
        for nest, plan in enumerate(plans):
            work.do(("plan", nest, plan))
        work.do(("turn", ("part", 0)))
        self.assertEqual(work.plans(), [plans[1], plans[0], plans[2]])
        work.do(("turn", ("part", 1)))
        self.assertEqual(work.plans(), [plans[1], plans[2], plans[0]])
        work.do(("turn", ("fuse", 0)))
        self.assertEqual(work.plans(), [PLAIN, plans[0]])
        self.assertEqual(work.ledger(), tuple((turn, turn_paper(now, turn)) for turn, now in [
            (("part", 0), program), (("part", 1), turned(program, ("part", 0))), (("fuse", 0), turned(turned(program, ("part", 0)), ("part", 1)))]))

    def test_moved_and_kernels(self):
        work = Work(TIGHT, sizes=(3,), given=GIVEN)
        for nest, plan in enumerate(TIGHT_PLANS):
            work.do(("plan", nest, plan))
        self.assertEqual(work.moved(), (3, 15, 6))
        self.assertEqual(work.moved(), tuple(moved(TIGHT, nest, plan, (3,)) for nest, plan in enumerate(TIGHT_PLANS)))
        self.assertEqual(work.kernels(), [kernel_of(TIGHT, nest, plan) for nest, plan in enumerate(TIGHT_PLANS)])
        self.assertEqual((type(work.moved()), type(work.kernels()), type(work.plans()), type(work.edits()), type(work.log())),
                         (tuple, list, list, list, tuple))
        work.do(("least", 1))
        self.assertEqual(work.plans()[1], least_plan(TIGHT, 1, (3,)))

    def test_nothing_told_changes_anything(self):
        work = Work(TIGHT, sizes=(3,), given=GIVEN)
        work.do(("plan", 0, (0, 2, (), (), ())))
        for told in (work.plans(), work.kernels(), work.edits()):
            told.clear()
        plans, edits, log = work.plans(), work.edits(), work.log()
        self.assertEqual((plans, edits, len(log), len(work.kernels())), ([(0, 2, (), (), ()), PLAIN, PLAIN], [("plan", 0, (0, 2, (), (), ()))], 2, 3))
        work.do(("least", 0))
        work.undo()
        self.assertEqual((len(plans), len(edits), len(log), work.plans()), (3, 1, 2, plans))

    def test_sizes(self):
        work = Work(TIGHT, sizes=(3,), given=GIVEN)
        work.do(("plan", 1, TIGHT_PLANS[1]))
        refused(self, Unfit, "about", 1, work.do, ("sizes", (12,), given_for(TIGHT, (12,))))
        self.assertEqual((work.sizes(), work.given()), ((3,), GIVEN))
        given = given_for(TIGHT, (4,), 1)
        work.do(("sizes", (4,), given))
        self.assertEqual((work.sizes(), work.given(), work.plans()[1]), ((4,), given, TIGHT_PLANS[1]))
        self.assertEqual(work.result(), plain_run(TIGHT, (4,), given))
        work.undo()
        self.assertEqual((work.sizes(), work.given(), work.result()), ((3,), GIVEN, plain_run(TIGHT, (3,), GIVEN)))


class Log(unittest.TestCase):
    def test_row_by_row(self):
        work = Work(TIGHT)
        due = []

        def note(word, end):
            due.extend([("begin", word), ("end", word, end)])
            self.assertEqual(work.log(), tuple(due))

        self.assertEqual(work.log(), ())
        for thing in ODD_THINGS:
            refused(self, BadKind, "wanted", "edit", work.do, thing)
        self.assertEqual(work.log(), ())
        work.do(("least", 0))
        note("least", "done")
        work.do(edit=("many", (("least", 1), ("turn", ("split", 2, 1)), ("sizes", (2,), ((1, 2, 3, 4),)))))
        note("many", "done")
        refused(self, BadNumber, "about", 9, work.do, ("many", (("least", 1), ("least", 9), ("least", 8))))
        note("many", "refused")
        refused(self, BadTurn, "about", 1, work.do, ("turn", ("fuse", 9)))
        note("turn", "refused")
        work.undo()
        note("undo", "done")
        refused(self, BadPlan, "about", None, work.do, ("plan", 0, None))
        note("plan", "refused")
        refused(self, BadSizes, "about", None, work.do, ("sizes", None, None))
        note("sizes", "refused")
        # Refused ones aren't counted: what was undone can be redone.
        self.assertEqual(work.redo()[0], "many")
        note("redo", "done")
        with self.assertRaises(Gone):
            work.redo()
        note("redo", "refused")
        work.undo()
        work.undo()
        due += [("begin", "undo"), ("end", "undo", "done")] * 2
        with self.assertRaises(Gone):
            work.undo()
        note("undo", "refused")
        self.assertEqual(work.redo(), ("least", 0))
        note("redo", "done")
        work.do(("least", 2))
        note("least", "done")
        with self.assertRaises(Gone):
            work.redo()
        note("redo", "refused")
        self.assertEqual(work.edits(), [("least", 0), ("least", 2)])

    def test_a_log_told_stays_as_it_was(self):
        work = Work(TIGHT)
        log = work.log()
        work.do(("least", 0))
        self.assertEqual(log, ())


class Many(unittest.TestCase):
    def test_one_to_eight(self):
        for many in range(1, 9):
            work = Work(TIGHT)
            work.do(("many", (("least", 0),) * many))
            self.assertEqual((len(work), work.edits()), (1, [("many", (("least", 0),) * many)]))
            self.assertEqual(work.undo(), ("many", (("least", 0),) * many))
            self.assertEqual(work.plans(), [PLAIN] * 3)

    def test_each_by_what_the_one_ahead_left(self):
        work = Work(TIGHT)
        # By sizes of 12 this PLAN isn't FIT, by those of 3 it is.
        big, small = ("sizes", (12,), given_for(TIGHT, (12,))), ("sizes", (3,), GIVEN)
        work.do(("many", (big, small, ("plan", 1, TIGHT_PLANS[1]))))
        self.assertEqual((work.sizes(), work.plans()[1]), ((3,), TIGHT_PLANS[1]))
        refused(self, Unfit, "about", 1, work.do, ("many", (("plan", 1, PLAIN), big, ("plan", 1, TIGHT_PLANS[1]), small)))
        self.assertEqual((work.sizes(), work.plans()[1]), ((3,), TIGHT_PLANS[1]))
        work.do(("many", (("turn", ("split", 2, 1)), ("turn", ("fuse", 2)), ("least", 2), ("turn", ("split", 2, 1)), ("least", 3))))
        self.assertEqual(len(work.program()[2]), 4)
        self.assertEqual([turn for turn, _ in work.ledger()], [("split", 2, 1), ("fuse", 2), ("split", 2, 1)])
        self.assertEqual(work.result(), plain_run(TIGHT, (3,), GIVEN))

    def test_refused_at_each_place(self):
        good = (("least", 0), ("plan", 1, (0, 2, (), (), ())), ("turn", ("split", 2, 1)), ("sizes", (2,), ((5, 6, 7, 8),)))
        for error, field, about, wrong in [
                (BadNumber, "about", 7, ("least", 7)), (BadNumber, "about", None, ("plan", None, None)), (BadPlan, "about", 1, ("plan", 0, (0, 9, (), (), ()))),
                (BadTurn, "about", None, ("turn", 5)), (BadSizes, "about", 0, ("sizes", (0,), ())), (BadGiven, "about", None, ("sizes", (1,), ()))]:
            for number in range(5):
                work = Work(TIGHT, sizes=(3,), given=GIVEN)
                work.do(("least", 2))
                before = work.work_twin()
                refused(self, error, field, about, work.do, ("many", good[:number] + (wrong,) + good[number:]))
                self.assertTrue(work == before)
                self.assertEqual((work.program(), work.plans(), work.sizes(), work.given(), work.ledger(), work.edits()), (
                    before.program(), before.plans(), before.sizes(), before.given(), before.ledger(), before.edits()))
                self.assertEqual(work.log(), before.log() + (("begin", "many"), ("end", "many", "refused")))


class Refused(unittest.TestCase):
    def test_what_is_no_edit_by_its_form(self):
        work = Work(TIGHT)
        nothing = Touchy()
        least = ("least", 0)
        for thing in [*ODD_THINGS, ("turn",), ("turn", nothing, nothing), ("plan", 0), ("plan", 0, nothing, nothing), ("least",), ("least", 0, 0), ("sizes", nothing),
                      ("sizes", (1,), (), ()), ("many",), ("many", ()), ("many", (least,) * 9), ("many", [least]), ("many", least), ("many", (least,), 0),
                      ("many", (("many", (least,)),)), ("many", (least, ("many", (least,)))), ("many", (least, nothing)), ("many", (least, ("undo",))),
                      ("undo",), ("redo",), ("Turn", ("part", 0)), ("turns", ("part", 0)), [*least], ["least", 0], (nothing, 0), (("least",), 0), ("least", 0, nothing, nothing),
                      ("many", {0: least}), ("many", nothing), (b"least", 0), "least", ("many", (("least",),)), (["least"], 0)]:
            refused(self, BadKind, "wanted", "edit", work.do, thing)
        self.assertEqual((len(work), work.log()), (0, ()))

    def test_turns(self):
        work = Work(SHIFTED)
        for thing in ODD_THINGS:
            refused(self, BadTurn, "about", None, work.do, ("turn", thing))
        for about, turn in [(1, ("fuse", 2)), (1, ("split", 3, 1)), (2, ("split", 0, 1)), (2, ("swap", 0, (1,))), (1, ("part", None)), (None, ("fuse", 0, 0))]:
            refused(self, BadTurn, "about", about, work.do, ("turn", turn))
        turn = ("part", 0)
        refused(self, Unsafe, "meeting", reversed_by(SHIFTED, turn), work.do, ("turn", turn))
        # Fused they are SAFE, and no loop is FREE then.
        self.assertIs(is_safe(SHIFTED, ("fuse", 1)), True)
        refused(self, Unfit, "about", 1, work.do, ("turn", ("fuse", 1)))
        self.assertEqual((len(work), work.program(), len(work.log())), (0, SHIFTED, 2 * (len(ODD_THINGS) + 8)))
        work.do(("turn", ("fuse", 0)))
        self.assertEqual(len(work.program()[2]), 2)

    def test_plans(self):
        work = Work(TIGHT, sizes=(12,), given=given_for(TIGHT, (12,)))
        for thing in [*ODD_NUMBERS, 3, -1]:
            refused(self, BadNumber, "about", thing, work.do, ("plan", thing, Touchy()))
            refused(self, BadNumber, "about", thing, work.do, ("least", thing))
        for thing in ODD_THINGS:
            if not (isinstance(thing, tuple) and len(thing) == 5):
                refused(self, BadPlan, "about", None, work.do, ("plan", 1, thing))
        refused(self, BadPlan, "about", 2, work.do, ("plan", 1, (0, 8, ("b",), (), ())))
        refused(self, Unfit, "about", 1, work.do, ("plan", 1, TIGHT_PLANS[1]))
        work.do(("plan", 1, (0, 5, ("a",), (), ())))
        self.assertEqual((len(work), work.plans()[1]), (1, (0, 5, ("a",), (), ())))

    def test_sizes(self):
        work = Work(TIGHT)
        for thing in ODD_THINGS:
            about = 0 if isinstance(thing, tuple) and len(thing) == 1 else None
            refused(self, BadSizes, "about", about, work.do, ("sizes", thing, Touchy()))
            refused(self, BadGiven, "about", about, work.do, ("sizes", (3,), thing))
        refused(self, BadSizes, "about", 0, work.do, ("sizes", (13,), Touchy()))
        refused(self, BadGiven, "about", 0, work.do, ("sizes", (3,), (GIVEN[0][:8],)))
        work.do(("plan", 1, TIGHT_PLANS[1]))
        refused(self, BadGiven, "about", None, work.do, ("sizes", (12,), ()))
        refused(self, Unfit, "about", 1, work.do, ("sizes", (12,), given_for(TIGHT, (12,))))

    def test_the_first_plan_that_is_not_fit(self):
        loops = (("i", by("n")), ("j", by("n")))
        program = (("n",), (("a", "given", (by("n"), by("n"))), ("b", "told", (by("n"),))), tuple(
            (loops, (add("b", (("i", 0),), at("a", ("j", 0), ("i", 0))),)) for _ in range(3)))
        work = Work(program)
        wide = (0, 8, ("a",), (), ())
        work.do(("many", (("plan", 2, wide), ("plan", 1, wide))))
        refused(self, Unfit, "about", 1, work.do, ("sizes", (9,), given_for(program, (9,))))
        work.do(("sizes", (8,), given_for(program, (8,))))

    def test_when_it_is_made(self):
        nothing = Touchy()
        for thing in ODD_THINGS:
            place = ("sizes",) if isinstance(thing, tuple) and len(thing) == 3 else None
            refused(self, BadProgram, "place", place, Work, thing, sizes=nothing, given=nothing)
            about = 0 if isinstance(thing, tuple) and len(thing) == 1 else None
            if thing is not None:
                refused(self, BadSizes, "about", about, Work, TIGHT, sizes=thing, given=nothing)
                refused(self, BadSizes, "about", about, Work, TIGHT, sizes=thing)
                refused(self, BadGiven, "about", about, Work, TIGHT, sizes=(3,), given=thing)
                refused(self, BadGiven, "about", about, Work, TIGHT, given=thing)
        refused(self, Unfit, "about", 0, Work, DENSE, sizes=nothing, given=nothing)
        refused(self, Unfit, "about", 0, Work, LINE, sizes=nothing)
        second = (*SHIFTED[:2], (SHIFTED[2][0], turned(SHIFTED, ("fuse", 1))[2][1]))
        refused(self, Unfit, "about", 1, Work, second, sizes=nothing)
        refused(self, BadGiven, "about", 0, Work, TIGHT, given=((0, 0),))
        with self.assertRaises(TypeError):
            Work(TIGHT, (3,))


class Twins(unittest.TestCase):
    def test_a_twin_goes_on_by_itself(self):
        work = Work(TIGHT, sizes=(3,), given=GIVEN)
        work.do(("least", 1))
        work.do(("turn", ("split", 2, 1)))
        work.do(("least", 0))
        work.undo()
        twin = work.work_twin()
        self.assertTrue(twin == work)
        self.assertEqual((twin.edits(), twin.log(), twin.ledger(), len(twin), twin.result()), (work.edits(), work.log(), work.ledger(), 2, work.result()))
        # What may be undone or redone, too.
        self.assertEqual((twin.redo(), twin.undo(), twin.undo(), twin.undo()), (("least", 0), ("least", 0), ("turn", ("split", 2, 1)), ("least", 1)))
        self.assertEqual((len(work), len(twin), work == twin, len(twin.log()) - len(work.log())), (2, 0, False, 8))
        self.assertEqual(work.redo(), ("least", 0))
        work.do(("sizes", (1,), ((5,),)))
        self.assertEqual((twin.sizes(), twin.redo()), ((3,), ("least", 1)))
        third = twin.work_twin()
        twin.do(("least", 2))
        self.assertEqual((len(third), third.redo()), (1, ("turn", ("split", 2, 1))))

    def test_equal_ones(self):
        work, other = Work(TIGHT), Work(TIGHT)
        self.assertTrue(work == other)
        for edit in [("least", 2), ("plan", 0, (0, 2, (), (), ())), ("turn", ("split", 2, 1)), ("sizes", (1,), ((1,),)), ("sizes", (2,), ((0,) * 4,))]:
            work.do(edit)
            self.assertIs(work == other, False)
            self.assertIs(work != other, True)
            work.undo()
            # As they stand: neither the LOG nor what can be redone is asked.
            self.assertTrue(work == other)
        work.do(("plan", 0, (0, 3, (), (), ())))
        work.do(("plan", 0, PLAIN))
        self.assertTrue(work == other)
        # Nor which PROGRAM it was at first.
        split = turned(TIGHT, ("split", 2, 1))
        work.do(("turn", ("split", 2, 1)))
        self.assertTrue(work == Work(split))
        for thing in [None, 0, "Work(0)", TIGHT, [], Touchyless()]:
            self.assertIs(work == thing, False)

    def test_the_greatest(self):
        work = Work(PRODUCT, sizes=(12, 12, 12), given=given_for(PRODUCT, (12, 12, 12)))
        work.do(("least", 0))
        self.assertEqual(work.result(), plain_run(PRODUCT, (12, 12, 12), given_for(PRODUCT, (12, 12, 12))))


class Touchyless:
    pass


class Whole(unittest.TestCase):
    def test_each_program_with_a_part_bent_stays_refused(self):
        refused(self, BadProgram, "place", ("nest", 0, "step", 0), Work, with_part(TIGHT, (2, 0, 1, 0, 0), "sub"))


if __name__ == "__main__":
    unittest.main()
