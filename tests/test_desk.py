"""[75]: a DESK that answers lines; and the whole way from a text to the RESULT."""

import random
import re
import unittest

from lanewright.compiled import kernel_of
from lanewright.desk import Desk, all_said
from lanewright.errors import BadKind, BadPlan, BadProgram, BadSizes, BadTurn, Gone, NoSuch, Unfit, Unsafe
from lanewright.led import Line, run_led
from lanewright.ledger import Turning, all_safe, check_ledger
from lanewright.loose import free_loops
from lanewright.plain import plain_run
from lanewright.plans import moved
from lanewright.programs import cells_at, need_program
from lanewright.prosein import kernel_in, plan_in, program_in, turn_in
from lanewright.proseout import kernel_text, plan_text, program_text, turn_text
from lanewright.work import Work
from tests.helper import DENSE, LINE, MORE_PROGRAMS, ODD_THINGS, PRODUCT, ROWS, Kept, add, at, by, chance_program, given_for, num, put, refused
from tests.slow_prose import wrong_program, wrong_turn, wrong_plan
from tests.test_led import TIGHT, all_free, chance_fit, schedules_for
from tests.test_work import SHIFTED

NAME, N = "[a-z]{1,8}", "(?:0|[1-9][0-9]{0,8})"
FORMS = [re.compile(form) for form in [
    "names", f"(?:undo|redo|walk|lanes|moved|safe|text|plans) {NAME}", f"(?:least|free|kernel) {NAME} {N}", f"sizes {NAME}(?: {N}){{1,3}}",
    f"turn {NAME} [^\n]*", f"plan {NAME} {N}(?: [^ \n]*){{2,8}}"]]
TEXT = program_text(ROWS)
OPEN = "open w\n" + TEXT
NEVER_ALIKE = "open w\n" + program_text(DENSE)


def counted(program, sizes):
    """GIVEN by the numbers of all WORDS."""
    rows, k = [], 0
    for name, kind, _ in program[1]:
        if kind == "given":
            row = []
            for _ in cells_at(program, name, sizes):
                row.append((7 * k * k + 3 * k + 1) % 65536)
                k += 1
            rows.append(tuple(row))
    return tuple(rows)


def slow_said(works, line):
    """The answer to a line, by the words of the document; WORKS are by NAMES in a dict, which is gone on with."""
    if not isinstance(line, str):
        return "bad line"
    found = re.fullmatch(f"open ({NAME})\n(.*)", line, re.DOTALL)
    if found:
        return slow_open(works, *found.groups())
    if not any(form.fullmatch(line) for form in FORMS):
        return "bad line"
    words = line.split(" ")
    if words[0] == "names":
        return " ".join(sorted(works)) or "none"
    if words[0] == "turn" and wrong_turn(" ".join(words[2:])) is not None:
        return "bad line"
    if words[1] not in works:
        return f"nothing called {words[1]}"
    return slow_about(works[words[1]], words)


def slow_open(works, name, text):
    wrong = wrong_program(text)
    if wrong is not None:
        return "bad row " + " ".join(map(str, wrong))
    program = program_in(text)
    try:
        need_program(program)
    except BadProgram:
        return "bad program"
    for nest in range(len(program[2])):
        if not free_loops(program, nest):
            return f"unfit {nest}"
    works[name] = Work(program)
    return "done"


def slow_about(work, words):
    word, program = words[0], work.program()
    nests = range(len(program[2]))
    if word in ("plan", "least", "free", "kernel") and int(words[2]) not in nests:
        return "bad nest"
    nest = int(words[2]) if word in ("plan", "least", "free", "kernel") else None
    asked = {
        "walk": lambda: "; ".join(" ".join([name, *map(str, row)]) for name, row in plain_run(program, work.sizes(), work.given())),
        "lanes": lambda: "; ".join(" ".join([name, *map(str, row)]) for name, row in plain_run(program, work.sizes(), work.given())),
        "moved": lambda: " ".join(str(moved(program, k, plan, work.sizes())) for k, plan in enumerate(work.plans())),
        "free": lambda: " ".join(program[2][nest][0][loop][0] for loop in free_loops(program, nest)),
        "safe": lambda: "; ".join(turn_text(turn) for k in nests for turn in all_safe(program, k)),
        "text": lambda: program_text(program).replace("\n", "; "),
        "plans": lambda: "; ".join(plan_text(program, k, plan) for k, plan in enumerate(work.plans())),
        "kernel": lambda: kernel_text(kernel_of(program, nest, work.plans()[nest])).replace("\n", "; ")}
    if word in asked:
        return asked[word]() or "none"
    try:
        slow_do(work, word, words[2:], nest)
    except (BadTurn, BadPlan, BadSizes, Gone) as error:
        return {BadTurn: "bad turn", BadPlan: "bad plan", BadSizes: "bad sizes", Gone: "gone"}[type(error)]
    except Unsafe as error:
        one, other, _ = error.meeting
        return "unsafe " + " ".join(map(str, one + other))
    except Unfit as error:
        return f"unfit {error.about}"
    return "done"


def slow_do(work, word, rest, nest):
    program = work.program()
    if word == "turn":
        work.do(("turn", turn_in(" ".join(rest))))
    elif word == "plan":
        text = " ".join(["plan"] + rest[1:])
        if wrong_plan(text, [name for name, _ in program[2][nest][0]]) is not None:
            raise BadPlan(None)
        work.do(("plan", nest, plan_in(program, nest, text)))
    elif word == "least":
        work.do(("least", nest))
    elif word == "sizes":
        sizes = tuple(map(int, rest))
        if len(sizes) != len(program[0]) or not all(1 <= size <= 12 for size in sizes):
            raise BadSizes(None)
        work.do(("sizes", sizes, counted(program, sizes)))
    else:
        work.undo() if word == "undo" else work.redo()


class Answers(unittest.TestCase):
    def talk(self, *rows):
        """A desk to which all this was said, with just these answers."""
        desk = Desk()
        for number, (line, answer) in enumerate(rows):
            self.assertEqual(desk.said(line), answer, line)
            self.assertEqual((len(desk), repr(desk)), (number + 1, f"Desk({number + 1})"))
        self.assertEqual(all_said([line for line, _ in rows]), [answer for _, answer in rows])
        return desk

    def test_done_and_each_asking(self):
        small = "sizes n\narray g given n\narray b told n+1\narray c told 1\nnest\nloop i n\nput b[i+1] add g[i] 1"
        self.talk(
            ("names", "none"), ("open w\n" + small, "done"), ("names", "w"), ("open a\n" + small, "done"), ("names", "a w"),
            ("walk w", "b 0 1; c 0"), ("lanes w", "b 0 1; c 0"), ("moved w", "2"), ("sizes w 3", "done"), ("walk w", "b 0 2 12 36; c 0"), ("lanes w", "b 0 2 12 36; c 0"),
            ("walk a", "b 0 1; c 0"), ("moved w", "6"), ("free w 0", "i"), ("safe w", "none"), ("plans w", "plan i 1"),
            ("text w", small.replace("\n", "; ")), ("plan w 0 i 2 near g", "done"), ("plans w", "plan i 2 near g"), ("plan w 0 i 8 held g", "bad plan"),
            ("kernel a 0", "kernel 1 n; do mul r7 group 1; do add r8 r7 lane; do less r2 r8 :n; if r2; . load r2 g r8 at 0 0; . do add r2 r2 1; "
             ". do add r0 r8 1; . store b r0 r2 at 0 0"),
            ("least w 0", "done"), ("plans w", "plan i 1"), ("undo w", "done"), ("plans w", "plan i 2 near g"), ("redo w", "done"), ("redo w", "gone"),
            ("undo w", "done"), ("undo w", "done"), ("plans w", "plan i 1"), ("undo w", "done"), ("walk w", "b 0 1; c 0"), ("undo w", "gone"), ("undo w", "gone"),
            ("redo w", "done"), ("walk w", "b 0 2 12 36; c 0"))

    def test_of_several_nests(self):
        desk = self.talk(
            (OPEN, "done"), ("sizes w 3 2", "done"), ("safe w", "split 0 1; swap 0 1 0; swap 2 1 0"), ("free w 0", "i"), ("free w 2", "i"),
            ("turn w split 0 1", "done"), ("safe w", "fuse 0; swap 0 1 0; swap 1 1 0; swap 3 1 0"), ("plans w", "plan i 1; plan i 1; plan i 1; plan i 1"),
            ("moved w", "18 24 9 24"), ("free w 3", "i"), ("free w 4", "bad nest"), ("turn w fuse 0", "done"), ("turn w swap 2 1 0", "done"), ("plans w", "plan i 1; plan i 1; plan i 1"))
        work = desk.work_of("w")
        self.assertEqual(work.edits(), [("sizes", (3, 2), counted(ROWS, (3, 2))), ("turn", ("split", 0, 1)), ("turn", ("fuse", 0)), ("turn", ("swap", 2, (1, 0)))])
        self.assertEqual(work.given(), (tuple((7 * k * k + 3 * k + 1) % 65536 for k in range(10)),))

    def test_given_behind_sizes(self):
        desk = Desk()
        desk.said("open w\n" + program_text(PRODUCT))
        self.assertEqual(desk.work_of("w").given(), ((0,), (0,)))
        for sizes in [(2, 3, 4), (12, 12, 12), (1, 1, 1)]:
            self.assertEqual(desk.said("sizes w " + " ".join(map(str, sizes))), "done")
            work = desk.work_of("w")
            self.assertEqual((work.sizes(), work.given()), (sizes, counted(PRODUCT, sizes)))
        # 144 WORDS of a, then b goes on with the 144th.
        desk.said("sizes w 12 12 12")
        self.assertEqual(desk.work_of("w").given()[1][0], (7 * 144 * 144 + 3 * 144 + 1) % 65536)

    def test_no_told_arrays(self):
        self.talk(("open w\nsizes n\narray a own n\nnest\nloop i n\nput a[i] 1", "done"), ("walk w", "none"), ("lanes w", "none"), ("moved w", "1"))

    def test_bad_lines(self):
        desk = Desk()
        desk.said(OPEN)
        for thing in ODD_THINGS + [b"names", ["names"], ("names",)]:
            self.assertEqual(desk.said(thing), "bad line")
        for line in [
                "", " ", "name", "names ", " names", "names w", "Names", "names\n", "open w", "open", "open\n" + TEXT, "open w \n" + TEXT, "open w" + TEXT, "open W\n" + TEXT,
                "open w x\n" + TEXT, "open ninesigns\n" + TEXT, " open w\n" + TEXT, "open  w\n" + TEXT, "open \n" + TEXT, "open\nw\n" + TEXT, "open w1\n" + TEXT,
                "walk", "walk w w", "walk w ", "walk  w", "walk W", "walk w\n", "walk\nw", "walk w\nwalk w", "undo", "redo w 0", "lanes 0", "moved w 0", "safe w 0", "text",
                "plans w 0", "kernel w", "kernel w 0 0", "kernel w x", "kernel w -1", "kernel w 00", "kernel w 01", "kernel w 1234567890", "kernel w 0\n", "kernel w ",
                "free w", "free w 0 ", "free w +1", "least w", "least w i", "least 0 w", "sizes w", "sizes w 1 2 3 4", "sizes w x", "sizes w 1 02", "sizes w 1  2",
                "sizes w 1234567890", "sizes w -1", "sizes w 1,2", "sizes", "sizes w 1 2\n", "turn w", "turn w ", "turn w fuse", "turn w fuse 5", "turn w fuse 0 ",
                "turn w fuse  0", "turn w split 0 0", "turn w swap 0 3", "turn w swap 0 0 1 2 0", "turn w turn", "turn w fuse 0\n", "turn w\nfuse 0", "turn fuse 0", "plan w",
                "plan w 0", "plan w 0 i", "plan w i 1", "plan w 00 i 1", "plan w 0 i 1 near a held b local c d", "plan w 0 i 1\n", "plan w\n0 i 1", "plan w 1234567890 i 1",
                "plan w 0 i 1 near a held b local c ", "close w", "log w", "text w x", "walk ninesigns"]:
            self.assertEqual(desk.said(line), "bad line", line)
            self.assertEqual(slow_said({"w": Work(ROWS)}, line), "bad line", line)
        self.assertEqual((desk.works(), desk.work_of("w").log()), (["w"], ()))

    def test_numbers_of_nine_figures(self):
        self.talk((OPEN, "done"), ("kernel w 999999999", "bad nest"), ("kernel w 1000000000", "bad line"), ("free w 100000000", "bad nest"), ("least w 3", "bad nest"),
                  ("plan w 123456789 i 1", "bad nest"), ("sizes w 999999999", "bad sizes"), ("sizes w 1 999999999", "bad sizes"), ("sizes w 9999999999", "bad line"),
                  ("sizes w 0 0", "bad sizes"), ("least w 0", "done"))

    def test_bad_rows_and_programs(self):
        for text in ["", "sizes", TEXT + "\n", TEXT + "\n\n", TEXT.replace("nest", "nests", 1), TEXT.replace(" i m", " i  m", 1), TEXT[:-1], "\n" + TEXT, TEXT + " ",
                     TEXT.replace("m+2", "m+02"), "sizes m\narray a told m", TEXT.replace("\n", "\n\n", 1)]:
            due = wrong_program(text)
            self.assertIsNotNone(due)
            self.talk(("open w\n" + text, f"bad row {due[0]} {due[1]}"), ("names", "none"))
        self.talk(("open w\n", "bad row 1 1"), ("open w\nsizes m", "bad row 2 1"), ("open w\nsizes m\nloop", "bad row 2 1"), ("open w\nsizes m k n z", "bad row 1 5"))
        for text in [TEXT.replace("sizes m n", "sizes m"), TEXT.replace("m+2", "m-1"), TEXT.replace("array row", "array raw"), TEXT.replace("put out[i]", "put raw[i,0]")]:
            self.assertNotEqual(text, TEXT)
            self.talk(("open w\n" + text, "bad program"), ("names", "none"))
        self.talk((NEVER_ALIKE, "unfit 0"), ("names", "none"), ("open w\n" + program_text(LINE), "unfit 0"))

    def test_open_over_a_work_that_is_there(self):
        self.talk(
            (OPEN, "done"), ("sizes w 2 2", "done"), (NEVER_ALIKE, "unfit 0"), ("undo w", "done"), ("redo w", "done"), ("open w\nx", "bad row 1 1"), ("undo w", "done"),
            ("redo w", "done"), (OPEN, "done"), ("undo w", "gone"), ("redo w", "gone"), ("walk w", "out 0"), ("open v\n" + program_text(SHIFTED), "done"), ("names", "v w"),
            ("open w\n" + program_text(SHIFTED), "done"), ("text w", program_text(SHIFTED).replace("\n", "; ")))

    def test_each_bad_answer(self):
        self.talk(
            ("walk w", "nothing called w"), ("kernel w 0", "nothing called w"), ("plan x 9 z 9", "nothing called x"), ("turn x fuse 4", "nothing called x"),
            ("sizes x 99", "nothing called x"), ("least x 999", "nothing called x"), ("undo names", "nothing called names"),
            ("open w\n" + program_text(SHIFTED), "done"), ("turn w fuse 2", "bad turn"), ("turn w split 0 1", "bad turn"), ("turn w swap 0 1", "bad turn"),
            ("turn w swap 0 0 0", "bad turn"), ("turn w part 4", "bad turn"), ("turn w part 0", "unsafe 0 1 1 0"), ("turn w fuse 1", "unfit 1"), ("plan w 3 i 1", "bad nest"),
            ("plan w 3 x x", "bad nest"), ("plan w 0 j 1", "bad plan"), ("plan w 0 i 9", "bad plan"), ("plan w 0 i 1 near", "bad plan"), ("plan w 0 i 1 near c", "bad plan"),
            ("plan w 0 i 1 held g", "bad plan"), ("plan w 0 i 1 near g,g", "bad plan"), ("plan w 0 i  1", "bad plan"), ("plan w 0 i 1 ", "bad plan"), ("plan w 0  ", "bad plan"),
            ("plan w 0 plan i 1", "bad plan"), ("sizes w 1 2", "bad sizes"), ("sizes w 13", "bad sizes"), ("sizes w 0", "bad sizes"), ("undo w", "gone"), ("redo w", "gone"),
            ("free w 3", "bad nest"), ("kernel w 3", "bad nest"), ("least w 3", "bad nest"), ("plan w 0 i 3 near g", "done"), ("sizes w 12", "done"))
        self.talk(
            ("open w\n" + program_text(TIGHT), "done"), ("plan w 1 i 8 near a", "done"), ("sizes w 12", "unfit 1"), ("sizes w 8", "done"), ("sizes w 9", "unfit 1"),
            ("plan w 1 j 8", "bad plan"), ("plan w 1 i 1", "done"), ("sizes w 12", "done"), ("plan w 1 i 6 near a", "unfit 1"), ("plan w 1 i 5 near a", "done"))

    def test_by_chance(self):
        chance = random.Random(75)
        texts = {name: program_text(program) for name, program in [("w", ROWS), ("ab", SHIFTED), ("names", TIGHT), ("c", PRODUCT), ("d", DENSE)]}
        seen = {}
        for seed in range(60):
            desk, works = Desk(), {}
            for _ in range(30):
                line = self.some_line(chance, texts, works)
                if chance.randrange(6) == 0 and len(line) > 0:
                    at_ = chance.randrange(len(line))
                    line = line[:at_] + chance.choice([" ", "0", "x", "\n", "i", "", line[at_] * 2]) + line[at_ + 1:]
                answer = slow_said(works, line)
                self.assertEqual(desk.said(line), answer, line)
                key = " ".join(answer.split(" ")[:2]) if answer.startswith(("bad", "nothing")) else answer.split(" ")[0]
                key = key if key.startswith(("bad", "nothing", "uns", "unf", "gone", "done", "none")) else "told"
                seen[key] = seen.get(key, 0) + 1
            self.assertEqual(desk.works(), sorted(works))
            for name in works:
                self.assertTrue(desk.work_of(name) == works[name])
                self.assertEqual(desk.work_of(name).edits(), works[name].edits())
        for key in ["done", "told", "bad line", "bad row", "nothing called", "bad nest", "bad turn", "bad plan", "bad sizes", "unsafe", "unfit", "gone"]:
            self.assertGreater(seen.get(key, 0), 1, key)

    def some_line(self, chance, texts, works):
        name = chance.choice(sorted(works) or ["w"]) if chance.randrange(12) else chance.choice(sorted(texts))
        nest = chance.choice([0, 0, 1, 2, 3, 9])
        word = chance.choice("open sizes sizes turn turn turn plan plan plan least undo undo redo walk lanes moved free safe text plans kernel names".split())
        if word == "open" or not works:
            return f"open {name}\n{texts[name]}"
        if word in ("undo", "redo", "walk", "lanes", "moved", "safe", "text", "plans"):
            return f"{word} {name}"
        if word == "sizes":
            many = len(works[name].sizes()) if name in works and chance.randrange(5) else chance.randint(1, 3)
            return f"sizes {name} " + " ".join(str(chance.choice([1, 2, 3, 4, 12 if many == 1 else 5, 13 if chance.randrange(4) == 0 else 2])) for _ in range(many))
        if word == "turn":
            return f"turn {name} " + chance.choice([f"fuse {nest}", f"split {nest} {chance.randint(1, 3)}", f"swap {nest} 1 0", f"part {nest}", "swap 0 0 2 1", f"swap {nest} 0"])
        if word == "plan":
            more = chance.choice(["", " near g", " near a", " held b", " held out", " near raw", " local spot", " near a,b held c", " held row local spot", " local c"])
            return f"plan {name} {nest} {chance.choice('iiij')} {chance.choice([1, 2, 5, 8, 8, 9])}{more}"
        return f"{word} {name} {nest}" if word != "names" else word


class Desks(unittest.TestCase):
    def test_works_and_twins(self):
        desk = Desk()
        self.assertEqual((desk.works(), len(desk), repr(desk)), ([], 0, "Desk(0)"))
        self.assertEqual(desk.said(line=OPEN), "done")
        desk.said("open a\n" + TEXT)
        self.assertEqual(desk.works(), ["a", "w"])
        told = desk.works()
        told.clear()
        self.assertEqual(desk.works(), ["a", "w"])
        desk.said("sizes w 2 3")
        desk.said("least w 0")
        desk.said("undo w")
        work = desk.work_of(name="w")
        self.assertIs(type(work), Work)
        self.assertEqual((work.sizes(), work.edits(), work.log()[:2]), ((2, 3), [("sizes", (2, 3), counted(ROWS, (2, 3)))], (("begin", "sizes"), ("end", "sizes", "done"))))
        self.assertEqual(work.redo(), ("least", 0))
        work.do(("sizes", (1, 1), ((0, 0, 0),)))
        self.assertEqual((desk.work_of("w").sizes(), desk.said("redo w"), desk.said("redo w")), ((2, 3), "done", "gone"))
        self.assertEqual((work.sizes(), len(work)), ((1, 1), 3))
        desk.said("undo w")
        desk.said("undo w")
        self.assertEqual((work.sizes(), len(work), desk.work_of("w").sizes()), ((1, 1), 3, (1, 1)))

    def test_no_such(self):
        desk = Desk()
        desk.said(OPEN)
        for name in [*ODD_THINGS, "x", "W", "w ", ["w"], ("w",), b"w"]:
            with self.assertRaises(NoSuch) as seen:
                desk.work_of(name)
            self.assertIs(seen.exception.name, name)

    def test_its_length(self):
        desk = Desk()
        for number, line in enumerate(["names", "x", None, OPEN, 5, ""]):
            desk.said(line)
            self.assertEqual((len(desk), repr(desk)), (number + 1, f"Desk({number + 1})"))

    def test_all_said(self):
        lines = [OPEN, "walk w", None, "names"]
        due = ["done", "out 0", "bad line", "w"]
        with Kept(self, lines):
            self.assertEqual(all_said(lines), due)
        self.assertEqual(all_said(tuple(lines)), due)
        self.assertEqual((all_said([]), all_said(()), all_said(lines=["names"])), ([], [], ["none"]))
        self.assertEqual(all_said(ODD_THINGS), ["bad line"] * len(ODD_THINGS))
        for thing in ODD_THINGS + ["names", {"names": 1}, range(2)]:
            if not isinstance(thing, (list, tuple)):
                refused(self, BadKind, "wanted", "list", all_said, thing)

    def test_desks_stand_by_themselves(self):
        one, other = Desk(), Desk()
        one.said(OPEN)
        self.assertEqual((other.said("names"), one.said("names")), ("none", "w"))


class Whole(unittest.TestCase):
    """From a text, by SAFE TURNS, PLANS that are FIT and SCHEDULES, to the RESULT of the plain walk of the first PROGRAM."""

    def test_from_a_text_to_the_result(self):
        chance = random.Random(0)
        seen = 0
        for program in MORE_PROGRAMS + [SHIFTED, TIGHT] + [chance_program(seed) for seed in range(80)]:
            sizes = tuple(chance.choice([1, 2, 3, 5]) for _ in program[0])
            given = given_for(program, sizes, 4)
            due = plain_run(program, sizes, given)
            turning = Turning(program_in(program_text(program)))
            for _ in range(5):
                turns = [turn for nest in range(len(turning.now()[2])) for turn in all_safe(turning.now(), nest)]
                if turns:
                    turning.do(turn_in(turn_text(chance.choice(turns))))
            self.assertEqual(check_ledger(program, turning.ledger()), turning.now())
            now = program_in(program_text(turning.now()))
            self.assertEqual(plain_run(now, sizes, given), due)
            if not all_free(now):
                continue
            plans = [plan_in(now, nest, plan_text(now, nest, plan)) for nest, plan in enumerate(chance_fit(now, sizes, chance))]
            schedules = schedules_for(now, plans, sizes, chance, len(plans))
            self.assertEqual(run_led(now, plans, sizes, given, schedules=schedules), due)
            line = Line(now, plans, sizes, given)
            for schedule in schedules:
                line.step(schedule)
            self.assertEqual(line.result(), due)
            for nest, plan in enumerate(plans):
                kernel = kernel_of(now, nest, plan)
                self.assertEqual(kernel_in(kernel_text(kernel)), kernel)
            seen += len(turning) > 0
        self.assertGreater(seen, 20)

    def test_by_a_desk(self):
        chance = random.Random(6)
        for program in [ROWS, SHIFTED, TIGHT, PRODUCT]:
            sizes = tuple(chance.choice([2, 3]) for _ in program[0])
            desk = Desk()
            desk.said("open w\n" + program_text(program))
            desk.said("sizes w " + " ".join(map(str, sizes)))
            due = plain_run(program, sizes, counted(program, sizes))
            shown = "; ".join(" ".join([name, *map(str, words)]) for name, words in due)
            for _ in range(12):
                turns = desk.said("safe w")
                lines = [f"least w {nest}" for nest in range(3)] + ["undo w", "redo w"]
                if turns != "none":
                    lines += ["turn w " + chance.choice(turns.split("; "))] * 5
                desk.said(chance.choice(lines))
                if desk.work_of("w").sizes() == sizes:
                    self.assertEqual((desk.said("walk w"), desk.said("lanes w")), (shown, shown))

    def test_words_that_wrap(self):
        """Numbers as great as WORDS can be, by lanes and by loops."""
        loops = (("i", by("n")), ("j", by("n")))
        program = (("n",), (("g", "given", (by("n"),)), ("s", "told", (by("n"),)), ("t", "told", (by("n"),))), (
            (loops, (add("s", (("i", 0),), ("mul", at("g", ("j", 0)), num(65535))),
                     put("t", (("i", 0),), ("sub", ("min", at("s", ("i", 0)), at("g", ("i", 0))), ("max", at("g", ("j", 0)), num(1)))))),))
        for size in (1, 4, 12):
            given = ((65535, 1, 0, 32768, 65534, 2, 3, 40000, 50000, 60000, 7, 65535)[:size],)
            for plan in [(0, 3, (), (), ()), (0, 8, ("g",)[:0], ("s", "t"), ()), (0, 2, ("g",)[:0], ("s",), ())]:
                self.assertEqual(run_led(program, [plan], (size,), given), plain_run(program, (size,), given))


if __name__ == "__main__":
    unittest.main()
