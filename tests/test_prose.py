"""[70] to [72]: texts of PROGRAMS, COUNTS, TURNS, PLANS and KERNELS, written and read."""

import itertools
import random
import unittest

from lanewright.compiled import kernel_of
from lanewright.errors import BadLine, BadNumber, BadProgram
from lanewright.kernels import need_kernel, rows_by_path
from lanewright.loose import free_loops
from lanewright.programs import need_program
from lanewright.prosein import count_in, kernel_in, plan_in, program_in, turn_in
from lanewright.proseout import count_text, kernel_text, plan_text, program_text, turn_text
from tests.helper import (
    CROSS, HEAD, LINE, MORE_PROGRAMS, NEARS, ODD_NUMBERS, ODD_THINGS, PRODUCT, PROGRAMS, ROWS, Kept, Touchy, add, at, by, chance_kernel,
    chance_program, fixed, kernel, num, put, with_part,
)
from tests.slow_prose import wrong_count, wrong_kernel, wrong_plan, wrong_program, wrong_turn
from tests.test_compiled import WIDE
from tests.test_plans import ALL_USES, LOCALS, plans_of

# NAMES that are the texts' own words.
OWN_WORDS = (
    ("sizes", "array", "nest"),
    (
        ("put", "given", (by("sizes"), (-8, (("array", 3), ("nest", 3), ("sizes", 3))))),
        ("add", "told", (by("nest", 2, 9), fixed(20))),
        ("at", "own", (fixed(1),)),
        ("near", "told", (by("array"), by("array", 1, 9))),
    ),
    (
        (
            (("loop", by("sizes")), ("add", by("nest", 2, -2)), ("plan", fixed(0))),
            (
                add("add", (("add", 9), ("", 9)), ("add", ("loop", "add"), ("max", at("add", ("add", 0), ("", 0)), num(0)))),
                put("at", (("", 0),), ("min", ("loop", "loop"), num(65535))),
                put("at", (("plan", 1),), num(9)),
                add("near", (("", 0), ("", 9)), at("near", ("", 0), ("", 0))),
            ),
        ),
        ((("lane", by("array")),), (put("near", (("lane", 0), ("lane", 9)), ("loop", "lane")),)),
    ),
)
FULL = ("max", ("min", ("mul", ("sub", num(1), num(2)), ("add", num(3), num(4))), num(5)), num(6))
# As much of everything as may be: sizes, arrays, nests, loops, steps.
LONGEST = (
    ("longname", "m", "zzzzzzzz"),
    tuple((name, kind, (by("m", 3, 20), by("longname"))) for name, kind in zip("abcdef", ["told", "own", "given"] * 2)),
    tuple(((("i", by("m")), ("j", by("longname")), ("k", fixed(1))), tuple(put("a", (("i", 9), ("j", 0)), FULL) for _ in range(4))) for _ in range(5)),
)
SOME_PROGRAMS = MORE_PROGRAMS + [ALL_USES, LOCALS, OWN_WORDS, LONGEST] + [chance_program(seed) for seed in range(60)]


class Texts(unittest.TestCase):
    def refused(self, read, text, due):
        with self.assertRaises(BadLine) as seen:
            read(text)
        self.assertIs(type(seen.exception), BadLine)
        self.assertEqual((seen.exception.row, seen.exception.word), due, text)

    def same(self, read, write, wrong, text):
        """What the other reader tells of a text; read, where it is good, and written again."""
        due = wrong(text)
        if due is None:
            self.assertEqual(write(read(text)), text)
        else:
            self.refused(read, text, due)
        return due is None

    def no_text(self, read):
        for thing in [thing for thing in ODD_THINGS if not isinstance(thing, str)]:
            self.refused_thing(read, thing)

    def refused_thing(self, read, thing):
        with self.assertRaises(BadLine) as seen:
            read(thing)
        self.assertEqual((seen.exception.row, seen.exception.word), (0, 0))

    def bent(self, text, chance):
        """The text bent somewhere: a sign, a word or a row put in, left out, exchanged or told twice."""
        way = chance.randrange(12)
        at_ = chance.randrange(len(text) + 1)
        if way == 0:
            return text[:at_] + chance.choice("0123456789+-:,[]. amnijr\n\n  ") + text[at_:]
        if way == 1:
            return text[:at_] + text[at_ + 1:]
        if way == 2:
            return text[:at_] + chance.choice("0159+-:,[]. amr\n") + text[at_ + 1:]
        if way == 3:
            return chance.choice([" " + text, text + " ", text + "\n", "\n" + text, text.replace(" ", "  ", 1), text.replace("\n", "\n\n", 1)])
        rows = text.split("\n")
        if way in (4, 5, 6, 7):
            spot, other = chance.randrange(len(rows)), chance.randrange(len(rows))
            return "\n".join({4: rows[:spot] + rows[spot + 1:], 5: rows[:spot] + [rows[other]] + rows[spot:],
                              6: rows[:spot] + [""] * chance.randrange(2) + [rows[spot] + chance.choice(["", " 0", " m", " x"])] + rows[spot + 1:],
                              7: rows[:spot] + [rows[other]] + rows[spot + 1:]}[way])
        spot = chance.randrange(len(rows))
        words = rows[spot].split(" ")
        k, j = chance.randrange(len(words)), chance.randrange(len(words))
        all_words = text.split()
        words = {8: words[:k] + words[k + 1:], 9: words[:k] + [words[j]] + words[k:], 10: words[:k] + [chance.choice(all_words)] + words[k + 1:],
                 11: words[:k] + [chance.choice(all_words + [".", "-", "at", "add", "65536", "00", "r32", "r031"])] + words[k:]}[way]
        return "\n".join(rows[:spot] + [" ".join(words)] + rows[spot + 1:])

    def bend(self, texts, read, write, wrong, many):
        chance = random.Random(72)
        seen = {True: 0, False: 0}
        for text in texts:
            for _ in range(many):
                bent = self.bent(text, chance)
                if chance.randrange(4) == 0:
                    bent = self.bent(bent, chance) if bent else bent
                seen[self.same(read, write, wrong, bent)] += 1
        self.assertGreater(seen[False], 400)
        self.assertGreater(seen[True], 20)


class Counts(Texts):
    def test_by_hand(self):
        for count, text in [
                (fixed(0), "0"), (fixed(-3), "-3"), (fixed(20), "20"), (fixed(-20), "-20"), (by("m"), "m"), (by("m", 2), "2m"), (by("m", 3, 20), "3m+20"),
                ((-1, (("m", 2), ("n", 1))), "2m+n-1"), ((1, (("a", 1), ("b", 2), ("c", 3))), "a+2b+3c+1"), (by("longname", 1, -20), "longname-20")]:
            self.assertEqual(count_text(count), text)
            self.assertEqual(count_in(text), count)
            self.assertEqual(count_in(text=count_text(count=count)), count)

    def test_all_of_some(self):
        for number in range(-20, 21):
            for terms in [(), (("m", 1),), (("m", 2), ("n", 3)), (("a", 3), ("b", 1), ("zz", 2))]:
                self.assertEqual(count_in(count_text((number, terms))), (number, terms))

    def test_refused(self):
        for word in ["", "m+", "+m", "m++n", "m+0", "m-0", "-0", "+3", "00", "03", "1m", "4m", "0m", "22m", "02m", "m2", "2", "m+21", "m-21", "21", "-21", "m+n+m",
                     "n+m", "m+m", "a+b+c+d", "m--1", "m+-1", "m-1+n", "1+m", "-m", "-1+m", "m-", "M", "m.", "m,n", "2m3", "3", "ninesigns", "m+ninesigns",
                     "m+01", "m-001", "9" * 300, "m+" + "9" * 300, "-" + "9" * 300, "2" * 40 + "m", "+", "-", "--3", "m+2n-1+3", ":m", "2M"]:
            due = wrong_count(word)
            self.assertIs(due is None, word in ("2", "3"), word)
            if due is not None:
                self.refused(count_in, word, (1, 1))
        for text, due in [("m ", (1, 2)), (" m", (1, 1)), ("m n", (1, 2)), ("m\n", (2, 1)), ("m\nn", (2, 1)), ("\nm", (1, 1)), ("m x\n", (1, 2))]:
            self.refused(count_in, text, due)
        self.no_text(count_in)

    def test_bent(self):
        texts = ["0", "-20", "m", "2m+n-1", "3a+2b+c+20", "m-7", "15"]
        self.bend(texts * 12, count_in, count_text, wrong_count, 60)

    def test_each_sign_of_three(self):
        """All words of up to three signs."""
        for many in (1, 2, 3):
            for signs in itertools.product("0123am+-", repeat=many):
                self.same(count_in, count_text, wrong_count, "".join(signs))


class Turns(Texts):
    def test_by_hand(self):
        for turn, text in [(("fuse", 0), "fuse 0"), (("split", 0, 1), "split 0 1"), (("swap", 0, (1, 0)), "swap 0 1 0"), (("part", 0), "part 0"),
                           (("swap", 4, (0,)), "swap 4 0"), (("swap", 3, (2, 0, 1)), "swap 3 2 0 1"), (("split", 4, 3), "split 4 3"), (("part", 4), "part 4")]:
            self.assertEqual(turn_text(turn), text)
            self.assertEqual(turn_in(text), turn)
            self.assertEqual(turn_in(text=turn_text(turn=turn)), turn)
        # What several things want together isn't looked at.
        self.assertEqual(turn_in("swap 0 0 0"), ("swap", 0, (0, 0)))
        self.assertEqual(turn_in("swap 0 2"), ("swap", 0, (2,)))

    def test_refused(self):
        for text, due in [
                ("", (1, 1)), ("fuse", (1, 2)), ("fuse 5", (1, 2)), ("fuse -1", (1, 2)), ("fuse 00", (1, 2)), ("fuse 0 1", (1, 3)), ("split 0", (1, 3)),
                ("split 0 0", (1, 3)), ("split 0 4", (1, 3)), ("split 0 1 1", (1, 4)), ("split 5 4", (1, 2)), ("swap 0", (1, 3)), ("swap 0 3", (1, 3)),
                ("swap 0 0 3", (1, 4)), ("swap 0 0 1 2 0", (1, 6)), ("swap 0 0 1 2 ", (1, 6)), ("turn 0", (1, 1)), ("Fuse 0", (1, 1)), (" fuse 0", (1, 1)),
                ("fuse  0", (1, 2)), ("fuse 0\n", (2, 1)), ("fuse 0\nfuse 0", (2, 1)), ("part", (1, 2)), ("part 0 ", (1, 3)), ("fuse" + " 0" * 500, (1, 3)),
                ("fuse " + "0" * 900, (1, 2)), ("swap 0 (1, 0)", (1, 3)), ("fuse\n0", (1, 2)), ("fuse 9\n\n", (1, 2))]:
            self.refused(turn_in, text, due)
            self.assertEqual(wrong_turn(text), due)
        self.no_text(turn_in)

    def test_bent(self):
        self.bend(["fuse 0", "split 1 3", "swap 0 1 0", "swap 2 2 1 0", "part 4"] * 10, turn_in, turn_text, wrong_turn, 60)


class Plans(Texts):
    def reader(self, program, nest):
        return lambda text: plan_in(program, nest, text)

    def test_there_and_back(self):
        for program in SOME_PROGRAMS[:30]:
            for nest in range(len(program[2])):
                for loop in free_loops(program, nest):
                    for plan in plans_of(program, nest, loop, 8)[:20] + plans_of(program, nest, loop, 1)[-3:]:
                        with Kept(self, program, plan):
                            text = plan_text(program, nest, plan)
                        self.assertIsNone(wrong_plan(text, [name for name, _ in program[2][nest][0]]))
                        self.assertEqual(plan_in(program, nest, text), plan)

    def test_by_hand(self):
        plan = (0, 3, ("bid", "fog"), ("cot",), ("aim",))
        self.assertEqual(plan_text(program=ALL_USES, nest=0, plan=plan), "plan i 3 near bid,fog held cot local aim")
        self.assertEqual(plan_in(program=ALL_USES, nest=0, text="plan i 3 near bid,fog held cot local aim"), plan)
        self.assertEqual(plan_text(ALL_USES, 0, (1, 8, (), (), ())), "plan j 8")
        self.assertEqual(plan_text(ALL_USES, 1, (0, 1, (), ("cot",), ())), "plan i 1 held cot")
        self.assertEqual(plan_in(ALL_USES, 1, "plan i 1 near x,x,a,b,c,d,e,f local near"), (0, 1, ("x", "x", "a", "b", "c", "d", "e", "f"), (), ("near",)))
        self.assertEqual(plan_in(OWN_WORDS, 0, "plan plan 4 local held,local"), (2, 4, (), (), ("held", "local")))

    def test_refused(self):
        read = self.reader(ALL_USES, 0)
        for text, due in [
                ("", (1, 1)), ("plan", (1, 2)), ("plan i", (1, 3)), ("plan k 1", (1, 2)), ("plan m 1", (1, 2)), ("plan 0 1", (1, 2)), ("plan i 0", (1, 3)),
                ("plan i 9", (1, 3)), ("plan i 01", (1, 3)), ("plan i 1 ", (1, 4)), ("plan i 1 near", (1, 5)), ("plan i 1 near a,", (1, 5)),
                ("plan i 1 near ,a", (1, 5)), ("plan i 1 near a,,b", (1, 5)), ("plan i 1 near a b", (1, 6)), ("plan i 1 held a near b", (1, 6)),
                ("plan i 1 near a near b", (1, 6)), ("plan i 1 local a held b", (1, 6)), ("plan i 1 far a", (1, 4)), ("plan i 1 near A", (1, 5)),
                ("plan i 1 local a x", (1, 6)), ("plan i 1\n", (2, 1)), ("plan i 1 near a\nplan i 1", (2, 1)), ("plan  i 1", (1, 2)), ("plan i 1 near ninesigns", (1, 5)),
                ("plan i 1 near a held b local c d", (1, 10)), ("near a", (1, 1)), ("plan i,j 1", (1, 2)), ("plan i 1 near a, b", (1, 5))]:
            self.refused(read, text, due)
            self.assertEqual(wrong_plan(text, ["i", "j"]), due)
        self.refused(self.reader(ALL_USES, 1), "plan j 1", (1, 2))
        self.no_text(read)

    def test_bent(self):
        texts = ["plan i 3 near bid,fog held cot local aim", "plan j 8", "plan i 1 held cot", "plan j 2 near a local b"]
        self.bend(texts * 10, self.reader(ALL_USES, 0), lambda plan: plan_text(ALL_USES, 0, plan), lambda text: wrong_plan(text, ["i", "j"]), 60)

    def test_refused_ahead(self):
        for thing in ODD_THINGS:
            place = ("sizes",) if isinstance(thing, tuple) and len(thing) == 3 else None
            with self.assertRaises(BadProgram) as seen:
                plan_in(thing, Touchy(), Touchy())
            self.assertEqual(seen.exception.place, place)
        for thing in [*ODD_NUMBERS, 2, -1]:
            with self.assertRaises(BadNumber) as seen:
                plan_in(ALL_USES, thing, Touchy())
            self.assertIs(seen.exception.about, thing)


class Programs(Texts):
    def test_there_and_back(self):
        for program in SOME_PROGRAMS + PROGRAMS + WIDE:
            need_program(program)
            with Kept(self, program):
                text = program_text(program)
            self.assertIsNone(wrong_program(text))
            self.assertEqual(program_in(text), program)
        self.assertEqual(program_in(text=program_text(program=ROWS)), ROWS)

    def test_by_hand(self):
        self.assertEqual(program_text(PRODUCT), (
            "sizes m n k\narray a given m k\narray b given k n\narray c told m n\nnest\nloop i m\nloop j n\nloop t k\n"
            "add c[i,j] mul a[i,t] b[t,j]"))
        self.assertEqual(program_text(LINE), (
            "sizes n\narray raw given n+2\narray near own n\narray sums told n+1\narray flag told 1 3\n"
            "nest\nloop i n\nput near[i] add raw[i] add raw[i+1] raw[i+2]\nadd flag[0,2] :i\n"
            "nest\nloop i n\nput sums[i+1] sub sums[i] near[i]\nadd sums[0] max near[i] min :i 65535\n"
            "nest\nloop i n-1\nloop j 0\nput flag[0,1] 9"))
        self.assertIn("put g[p+3,q] g[p+1,q+2]", program_text(CROSS).split("\n"))
        self.assertIn("array g told 2m+9 m+n+9", program_text(CROSS).split("\n"))

    def test_what_several_things_want_together_is_not_looked_at(self):
        for text, due in [
                ("sizes m m\narray a given -5\nnest\nloop i -1\nput b[k+9,m] c[0]",
                 (("m", "m"), (("a", "given", (fixed(-5),)),), (((("i", fixed(-1)),), (put("b", (("k", 9), ("m", 0)), at("c", ("", 0))),)),))),
                ("sizes m\narray a told 3x+3y 3x+3y\narray a own 20 20\nnest\nloop m x\nloop m x\nloop m x\nadd a[9] :zz", (
                    ("m",), (("a", "told", ((0, (("x", 3), ("y", 3))),) * 2), ("a", "own", (fixed(20),) * 2)),
                    (((("m", by("x")),) * 3, (add("a", (("", 9),), ("loop", "zz")),)),)))]:
            self.assertEqual(program_in(text), due)

    def test_refused(self):
        base = "sizes m\narray a told m\nnest\nloop i m\n"
        for text, due in [
                ("", (1, 1)), ("sizes", (1, 2)), ("sizes m n k o", (1, 5)), ("sizes m", (2, 1)), ("sizes m\n", (2, 1)), ("sizes m\nnest", (2, 1)),
                ("sizes M", (1, 2)), ("sizes m ", (1, 3)), (" sizes m", (1, 1)), ("sizes  m", (1, 2)), ("array", (1, 1)), ("sizes m\narray", (2, 2)),
                ("sizes m\narray a", (2, 3)), ("sizes m\narray a lent", (2, 3)), ("sizes m\narray a told", (2, 4)), ("sizes m\narray a told m", (3, 1)),
                ("sizes m\narray a told m m m", (2, 6)), ("sizes m\narray a told m 2n+", (2, 5)), ("sizes m" + "\narray a told m" * 7, (8, 1)),
                ("sizes m" + "\narray a told m" * 6, (8, 1)), ("sizes m\narray a told m\nsizes m", (3, 1)), ("sizes m\narray a told m\nloop i m", (3, 1)),
                ("sizes m\narray a told m\nnest", (4, 1)), ("sizes m\narray a told m\nnest ", (3, 2)), ("sizes m\narray a told m\nnest\nput a[i] 1", (4, 1)),
                (base[:-1], (5, 1)), (base + "loop j m\nloop k m\nloop l m", (7, 1)), (base + "nest", (5, 1)), (base + "array b told m", (5, 1)),
                (base + "put", (5, 2)), (base + "put a[i]", (5, 3)), (base + "put a 1", (5, 2)), (base + "put a[i 1", (5, 2)), (base + "put a[] 1", (5, 2)),
                (base + "put a[i,] 1", (5, 2)), (base + "put a[i,j,k] 1", (5, 2)), (base + "put a[i+0] 1", (5, 2)), (base + "put a[i+10] 1", (5, 2)),
                (base + "put a[10] 1", (5, 2)), (base + "put a[00] 1", (5, 2)), (base + "put a[i-1] 1", (5, 2)), (base + "put a[1+i] 1", (5, 2)),
                (base + "put [i] 1", (5, 2)), (base + "put a[i]x 1", (5, 2)), (base + "put a[[i] 1", (5, 2)), (base + "put a[i]] 1", (5, 2)),
                (base + "put a[i+] 1", (5, 2)), (base + "put a[i+1+1] 1", (5, 2)), (base + "put A[i] 1", (5, 2)), (base + "put ninesigns[i] 1", (5, 2)),
                (base + "put a[i] 65536", (5, 3)), (base + "put a[i] 01", (5, 3)), (base + "put a[i] -1", (5, 3)), (base + "put a[i] i", (5, 3)),
                (base + "put a[i] :", (5, 3)), (base + "put a[i] :I", (5, 3)), (base + "put a[i] : i", (5, 3)), (base + "put a[i] 1 2", (5, 4)),
                (base + "put a[i] add", (5, 4)), (base + "put a[i] add 1", (5, 5)), (base + "put a[i] add 1 2 3", (5, 6)), (base + "put a[i] less 1 2", (5, 3)),
                (base + "put a[i] 1\n", (6, 1)), (base + "put a[i] 1\n\n", (6, 1)), (base + "put a[i] 1\nloop j m", (6, 1)),
                (base + "put a[i] 1\n" * 4 + "add a[i] 1", (9, 1)), (base + "put a[i] 1\nnest", (7, 1)), (base + "put a[i] 1 ", (5, 4)),
                (base + "put a[i] " + "9" * 400, (5, 3)), (base + "set a[i] 1", (5, 1)), (base + "put a[i] 1\narray b told m", (6, 1))]:
            self.refused(program_in, text, due)
            self.assertEqual(wrong_program(text), due)
        nest = "\nnest\nloop i m\nput a[i] 1"
        self.assertEqual(len(program_in("sizes m\narray a told m" + nest * 5)[2]), 5)
        self.refused(program_in, "sizes m\narray a told m" + nest * 6, (18, 1))
        self.no_text(program_in)

    def test_how_deep_an_expr_is(self):
        base = "sizes m\narray a told m\nnest\nloop i m\nput a[i] "
        good = base + "add add add add 1 2 3 4 5"
        self.assertEqual(program_in(good)[2][0][1][0][3], ("add", ("add", ("add", ("add", num(1), num(2)), num(3)), num(4)), num(5)))
        self.assertEqual(program_in(base + "sub 1 sub 2 sub 3 sub 4 :i")[2][0][1][0][3][2][2][2][2], ("loop", "i"))
        # An OP can stand in four others, nothing in five: whatever the word there is.
        for more in ["add add add add add 1 2 3 4 5 6", "add add add add add", "add add add add add add", "add add add add add x", "add add add add add "]:
            self.refused(program_in, base + more, (5, 8))
            self.assertEqual(wrong_program(base + more), (5, 8))
        self.refused(program_in, base + "max 1 max 2 max 3 max 4 max 5 6", (5, 12))
        self.refused(program_in, base + "max max max max 1 max 2 3 4 5 6", (5, 9))

    def test_bent(self):
        self.bend([program_text(program) for program in SOME_PROGRAMS[:8] + [OWN_WORDS, LONGEST]], program_in, raw_text, wrong_program, 500)

    def test_each_row_and_word_left_out(self):
        for program in [ROWS, OWN_WORDS]:
            text = program_text(program)
            rows = text.split("\n")
            for number, row in enumerate(rows):
                for bent in (rows[:number] + rows[number + 1:], rows[:number] + [""] + rows[number:], rows[:number + 1], rows[:number] + [row] + rows[number:]):
                    self.same(program_in, raw_text, wrong_program, "\n".join(bent))
                words = row.split(" ")
                for spot in range(len(words)):
                    for some in (words[:spot] + words[spot + 1:], words[:spot] + [""] + words[spot:], words[:spot], words[:spot] + [words[spot]] + words[spot:],
                                 words[:spot] + ["?"] + words[spot + 1:]):
                        self.same(program_in, raw_text, wrong_program, "\n".join(rows[:number] + [" ".join(some)] + rows[number + 1:]))

    def test_bad_program(self):
        for thing in ODD_THINGS:
            place = ("sizes",) if isinstance(thing, tuple) and len(thing) == 3 else None
            with self.assertRaises(BadProgram) as seen:
                program_text(thing)
            self.assertEqual(seen.exception.place, place)
        with self.assertRaises(BadProgram) as seen:
            program_text(with_part(ROWS, (2, 1, 0, 0, 0), "m"))
        self.assertEqual(seen.exception.place, ("nest", 1, "loop", 0))


def raw_text(program):
    """The text of what has a PROGRAM's form alone, put together of texts of its parts."""
    sizes, arrays, nests = program
    rows = [" ".join(("sizes",) + sizes)]
    rows += [" ".join(["array", name, kind] + [count_text(dim) for dim in dims]) for name, kind, dims in arrays]
    for loops, steps in nests:
        rows += ["nest"] + [f"loop {name} {count_text(count)}" for name, count in loops]
        rows += [f"{word} {raw_cell(array, indexes)} {raw_expr(expr)}" for word, array, indexes, expr in steps]
    return "\n".join(rows)


def raw_cell(array, indexes):
    return array + "[" + ",".join(str(more) if not loop else loop + (f"+{more}" if more else "") for loop, more in indexes) + "]"


def raw_expr(expr):
    if expr[0] in ("num", "loop"):
        return str(expr[1]) if expr[0] == "num" else ":" + expr[1]
    return raw_cell(*expr[1:]) if expr[0] == "at" else " ".join((expr[0], raw_expr(expr[1]), raw_expr(expr[2])))


REG = ("reg", 31)
HAND = (3, (-1, (("m", 2), ("n", 1))), (("desk", (fixed(3),)), ("gifts", (by("n"), fixed(2)))), (
    ("set", 0, ("num", 65535)),
    ("do", "less", 31, ("lane",), ("group",)),
    ("loop", 3, ("num", 0), ("size", "m"), (
        ("if", REG, (("load", 4, "told", (("reg", 3), ("num", 0)), (4, 3)), ("store", "desk", (("lane",),), ("reg", 4), (0, None)))),
        ("if", ("num", 1), ()),
        ("store", "gifts", (("num", 0), ("lane",)), ("size", "n")),
    )),
    ("load", 0, "gift", (("group",),)),
    ("fence",),
))
HAND_TEXT = """kernel 3 2m+n-1
near desk 3
near gifts n 2
set r0 65535
do less r31 lane group
loop r3 0 :m
. if r31
. . load r4 told r3 0 at 4 3
. . store desk lane r4 at 0 -
. if 1
. store gifts 0 lane :n
load r0 gift group
fence"""


def nested(many, word):
    """Rows one in the other."""
    row = ("fence",)
    for _ in range(many):
        row = ("if", ("num", 1), (row,)) if word == "if" else ("loop", 0, ("num", 0), ("num", 1), (row,))
    return row


class Kernels(Texts):
    def test_by_hand(self):
        need_kernel(*HEAD, HAND)
        self.assertEqual(kernel_text(HAND), HAND_TEXT)
        self.assertEqual(kernel_in(HAND_TEXT), HAND)
        self.assertEqual(kernel_in(text=kernel_text(kernel=HAND)), HAND)
        self.assertEqual(kernel_text((1, fixed(0), (), ())), "kernel 1 0")
        self.assertEqual(kernel_in("kernel 8 m"), (8, by("m"), (), ()))

    def test_there_and_back(self):
        for seed in range(400):
            thing = chance_kernel(seed)
            with Kept(self, thing):
                text = kernel_text(thing)
            self.assertIsNone(wrong_kernel(text))
            self.assertEqual(kernel_in(text), thing)
        for program in WIDE + [ROWS, ALL_USES]:
            thing = kernel_of(program, 0, plans_of(program, 0, free_loops(program, 0)[0], 5)[-1])
            self.assertEqual(kernel_in(kernel_text(thing)), thing)

    def test_each_operand_register_and_source(self):
        rows = []
        for a in [("num", 0), ("num", 65535), ("reg", 0), ("reg", 31), ("lane",), ("group",), ("size", "m"), ("size", "n")]:
            rows += [("set", 9, a), ("do", "rest", 10, a, ("num", 1)), ("do", "div", 0, ("num", 1), a), ("if", a, ()), ("loop", 1, a, a, ()),
                     ("store", "mine", (a,), a), ("store", "told", (a, a), a), ("load", 1, "mine", (a,)), ("load", 1, "told", (a, a))]
        for nest in range(5):
            for step in (None, 0, 1, 2, 3):
                rows += [("load", 1, "mine", (REG,), (nest, step)), ("store", "told", (REG, REG), REG, (nest, step)), ("load", 1, "told", (REG, REG), (nest, step)),
                         ("store", "mine", (REG,), REG, (nest, step))]
        rows += [("do", op, 5, REG, REG) for op in "add sub mul min max less div rest".split()] + [("set", number, REG) for number in range(32)]
        thing = kernel(*rows)
        need_kernel(*HEAD, thing)
        self.assertEqual(kernel_in(kernel_text(thing)), thing)
        # NAMES that are the texts' own words, and rows of arrays that aren't there.
        own = (2, by("lane"), (("near", (fixed(1),)), ("at", (fixed(2),)), ("set", (by("group"), by("at")))), (
            ("load", 1, "at", (("size", "lane"),), (0, None)), ("store", "near", (("size", "group"), ("lane",)), ("group",)), ("load", 1, "load", (REG,)),
            ("store", "fence", (REG,), REG), ("load", 0, "lane", (("lane",), ("lane",)), (1, 2))))
        self.assertEqual(kernel_in(kernel_text(own)), own)
        self.assertIsNone(wrong_kernel(kernel_text(own)))

    def test_how_deep_rows_stand(self):
        for word in ("if", "loop"):
            thing = kernel(nested(5, word), ("fence",))
            need_kernel(*HEAD, thing)
            self.assertEqual(max(len(path) for path in rows_by_path(thing)), 6)
            text = kernel_text(thing)
            self.assertEqual(text.split("\n")[-2:], [". . . . . fence", "fence"])
            self.assertEqual(kernel_in(text), thing)
            deeper = kernel_text(kernel(nested(6, word)))
            self.refused(kernel_in, deeper, (10, 6))
            self.assertEqual(wrong_kernel(deeper), (10, 6))

    def test_as_many_rows_as_may_be(self):
        row, inner = ("set", 0, ("num", 1)), ("if", ("num", 1), (("set", 0, ("num", 1)),))
        for rows in [(row,) * 400, (inner,) * 200]:
            text = kernel_text(kernel(*rows, nears=()))
            self.assertEqual(kernel_in(text), kernel(*rows, nears=()))
            for more, due in [("set r0 1", (402, 1)), ("x", (402, 1)), ("", (402, 1)), (". set r0 1", (402, 1) if rows[0] == row else (402, 2))]:
                self.refused(kernel_in, text + "\n" + more, due)
                self.assertEqual(wrong_kernel(text + "\n" + more), due)
        nears = tuple((name, (fixed(1), fixed(20))) for name in "abcdef")
        text = kernel_text(kernel(row, nears=nears))
        self.assertEqual(kernel_in(text)[2], nears)
        self.refused(kernel_in, kernel_text(kernel(nears=nears)) + "\nnear g 1", (8, 1))
        self.refused(kernel_in, text + "\nnear g 1", (9, 1))

    def test_what_several_things_want_together_is_not_looked_at(self):
        self.assertEqual(kernel_in("kernel 1 -20\nnear a 0\nnear a -3\nload r0 b 1 2\nset r0 :zz"), (
            1, fixed(-20), (("a", (fixed(0),)), ("a", (fixed(-3),))), (("load", 0, "b", (("num", 1), ("num", 2))), ("set", 0, ("size", "zz")))))

    def test_refused(self):
        base = "kernel 1 m\n"
        for text, due in [
                ("", (1, 1)), ("kernel", (1, 2)), ("kernel 0 m", (1, 2)), ("kernel 9 m", (1, 2)), ("kernel 1", (1, 3)), ("kernel 1 n+m", (1, 3)), ("kernel 1 m ", (1, 4)),
                (base, (2, 1)), (base + "near", (2, 2)), (base + "near a", (2, 3)), (base + "near a 1 2 3", (2, 5)), (base + "near a m+", (2, 3)),
                (base + "near A 1", (2, 2)), (base + ". near a 1", (2, 1)), (base + "fence\nnear a 1", (3, 1)), (base + "if 1\n. near a 1", (3, 2)),
                (base + ". fence", (2, 1)), (base + "fence\n. fence", (3, 1)), (base + "if 1\n. . fence", (3, 2)), (base + "if 1\n. fence\n. . fence", (4, 2)),
                (base + "if 1\n.", (3, 2)), (base + "if 1\n. ", (3, 2)), (base + ".", (2, 1)), (base + "if 1\n.fence", (3, 1)), (base + "if 1\n. .", (3, 2)),
                (base + "if 1\n.  fence", (3, 2)), (base + "if 1\nif 1\n. if 1\n. . fence\n. . . fence", (6, 3)),
                (base + "set", (2, 2)), (base + "set 0 1", (2, 2)), (base + "set r32 1", (2, 2)), (base + "set r00 1", (2, 2)), (base + "set r 1", (2, 2)),
                (base + "set r0", (2, 3)), (base + "set r0 65536", (2, 3)), (base + "set r0 :M", (2, 3)), (base + "set r0 m", (2, 3)), (base + "set r0 r32", (2, 3)),
                (base + "set r0 1 2", (2, 4)), (base + "set r0 1 at 0 0", (2, 4)), (base + "do", (2, 2)), (base + "do less", (2, 3)), (base + "do pow r0 1 1", (2, 2)),
                (base + "do add r0 1", (2, 5)), (base + "do add r0 1 1 1", (2, 6)), (base + "load", (2, 2)), (base + "load r0", (2, 3)), (base + "load r0 a", (2, 4)),
                (base + "load r0 a at 0 0", (2, 4)), (base + "load r0 a 1 2 3", (2, 6)), (base + "load r0 a 1 at", (2, 6)), (base + "load r0 a 1 at 5 0", (2, 6)),
                (base + "load r0 a 1 at 0", (2, 7)), (base + "load r0 a 1 at 0 4", (2, 7)), (base + "load r0 a 1 at 0 --", (2, 7)), (base + "load r0 a 1 at - 0", (2, 6)),
                (base + "load r0 a 1 2 at 0 - 1", (2, 9)), (base + "load r0 a 1 x", (2, 5)), (base + "load a r0 1", (2, 2)), (base + "load r0 a 1 ", (2, 5)),
                (base + "store", (2, 2)), (base + "store a", (2, 3)), (base + "store a 1", (2, 4)), (base + "store a 1 at 0 0", (2, 4)), (base + "store a 1 2 3 4", (2, 6)),
                (base + "store a 1 2 at 0 0 0", (2, 8)), (base + "store r0 1 2", (2, 2)), (base + "store a 1 2 3 at 0 0 0", (2, 9)), (base + "loop", (2, 2)),
                (base + "loop r0 1", (2, 4)), (base + "loop r0 1 1 1", (2, 5)), (base + "if", (2, 2)), (base + "if 1 1", (2, 3)), (base + "fence 1", (2, 2)),
                (base + "fence ", (2, 2)), (base + "halt", (2, 1)), (base + "fence\n", (3, 1)), (base + "fence\n\nfence", (3, 1)), (base + " fence", (2, 1)),
                (base + "set r0 " + "1" * 300, (2, 3)), (base + "set r" + "1" * 300 + " 1", (2, 2)), (base + "kernel 1 m", (2, 1)), (base + ". " * 900 + "fence", (2, 1))]:
            self.refused(kernel_in, text, due)
            self.assertEqual(wrong_kernel(text), due)
        self.no_text(kernel_in)

    def test_bent(self):
        texts = [HAND_TEXT] * 5 + [kernel_text(chance_kernel(seed)) for seed in range(40)]
        self.bend(texts, kernel_in, kernel_text, wrong_kernel, 150)

    def test_nears_are_those_of_the_helper(self):
        self.assertEqual(kernel_in(kernel_text(kernel()))[2], NEARS)


if __name__ == "__main__":
    unittest.main()
