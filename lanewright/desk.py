"""A DESK of WORKS that answers lines."""

from lanewright.compiled import kernel_of
from lanewright.errors import (
    BadKind, BadLine, BadNumber, BadPlan, BadProgram, BadSizes, BadTurn, Gone, NoSuch, Unfit, Unsafe,
)
from lanewright.ledger import all_safe
from lanewright.loose import free_loops
from lanewright.parts import is_one_of
from lanewright.plain import plain_run
from lanewright.programs import need_nest, need_sizes
from lanewright.prosein import plan_in, program_in, turn_in
from lanewright.proseout import kernel_text, plan_text, program_text, turn_text
from lanewright.reader import FIGURES
from lanewright.words import WORDS, is_name
from lanewright.work import Work, given_lengths

BAD_LINE = "bad line"
MOST_FIGURES = 9
# Of lines by their first words: how many words there are behind the NAME at least and at most, and how many of these,
# from the first one on, are numbers.
LINES = {
    "sizes": (1, 3, 3), "turn": (2, 5, 0), "plan": (3, 9, 1), "least": (1, 1, 1), "undo": (0, 0, 0), "redo": (0, 0, 0),
    "walk": (0, 0, 0), "lanes": (0, 0, 0), "moved": (0, 0, 0), "free": (1, 1, 1), "safe": (0, 0, 0), "text": (0, 0, 0),
    "plans": (0, 0, 0), "kernel": (1, 1, 1),
}
EDIT_WORDS = ("sizes", "turn", "plan", "least", "undo", "redo")


def is_figures(word):
    """Whether a word is a number of one to nine figures."""
    if not 1 <= len(word) <= MOST_FIGURES or not all([sign in FIGURES for sign in word]):
        return False
    return word == "0" or word[0] != "0"


def is_turn_text(text):
    """Whether a text is that of a TURN."""
    try:
        turn_in(text)
    except BadLine:
        return False
    return True


def is_line(words):
    """Whether words are a line about a WORK, whichever stands there."""
    if len(words) < 2 or not is_one_of(words[0], list(LINES)) or not is_name(words[1]):
        return False
    least, most, numbers = LINES[words[0]]
    rest = words[2:]
    if not least <= len(rest) <= most or not all([is_figures(word) for word in rest[:numbers]]):
        return False
    return words[0] != "turn" or is_turn_text(listed(rest))


def listed(words):
    """Words with one blank between, "none" where there are none."""
    return " ".join(words) if len(words) > 0 else "none"


def parted(rows):
    """Rows with a sign and a blank between, "none" where there are none."""
    return "; ".join(rows) if len(rows) > 0 else "none"


def rows_of(text):
    """The rows of a text, parted as an answer tells them."""
    return parted(text.split("\n"))


def numbers_told(numbers):
    """Numbers with one blank between."""
    return listed([str(number) for number in numbers])


def result_told(result):
    """How a RESULT is told."""
    return parted([f"{name} {numbers_told(words)}" for name, words in result])


def counted_given(program, sizes):
    """GIVEN whose WORDS come of their numbers alone, all arrays counted through."""
    found = []
    first = 0
    for many in given_lengths(program, sizes):
        found.append(tuple([(7 * at * at + 3 * at + 1) % WORDS for at in range(first, first + many)]))
        first = first + many
    return tuple(found)


def opened(text):
    """A pair of the WORK of a PROGRAM's text, None where it is refused, and the answer."""
    try:
        return Work(program_in(text)), "done"
    except BadLine as bent:
        return None, f"bad row {bent.row} {bent.word}"
    except BadProgram:
        return None, "bad program"
    except Unfit as lack:
        return None, f"unfit {lack.about}"


def do_words(work, words):
    """Does what a line wants done to a WORK."""
    word, rest = words[0], words[2:]
    if word == "sizes":
        sizes = tuple([int(number) for number in rest])
        need_sizes(work.program(), sizes)
        work.do(("sizes", sizes, counted_given(work.program(), sizes)))
    elif word == "turn":
        work.do(("turn", turn_in(listed(rest))))
    elif word == "plan":
        nest = int(rest[0])
        work.do(("plan", nest, plan_in(work.program(), nest, listed(["plan", *rest[1:]]))))
    elif word == "least":
        work.do(("least", int(rest[0])))
    elif word == "undo":
        work.undo()
    else:
        work.redo()


def done(work, words):
    """The answer to a line that wants something done to a WORK."""
    try:
        do_words(work, words)
    except BadNumber:
        return "bad nest"
    except BadTurn:
        return "bad turn"
    except (BadPlan, BadLine):
        return "bad plan"
    except BadSizes:
        return "bad sizes"
    except Unsafe as met:
        one, other, _ = met.meeting
        shown = numbers_told([*one, *other])
        return f"unsafe {shown}"
    except Unfit as lack:
        return f"unfit {lack.about}"
    except Gone:
        return "gone"
    return "done"


def asked(work, words):
    """The answer to a line that asks something of a WORK."""
    word, program = words[0], work.program()
    if word in ("free", "kernel"):
        return asked_of_nest(work, word, int(words[2]))
    if word == "walk":
        return result_told(plain_run(program, work.sizes(), work.given()))
    if word == "lanes":
        return result_told(work.result())
    if word == "moved":
        return numbers_told(work.moved())
    if word == "text":
        return rows_of(program_text(program))
    if word == "plans":
        return parted([plan_text(program, nest, plan) for nest, plan in enumerate(work.plans())])
    return parted([turn_text(turn) for nest in range(len(program[2])) for turn in all_safe(program, nest)])


def asked_of_nest(work, word, nest):
    """The answer to a line that asks something of one nest."""
    program = work.program()
    try:
        need_nest(program, nest)
    except BadNumber:
        return "bad nest"
    if word == "kernel":
        return rows_of(kernel_text(kernel_of(program, nest, work.plans()[nest])))
    loops = program[2][nest][0]
    return listed([loops[loop][0] for loop in free_loops(program, nest)])


class Desk:
    """WORKS by NAMES, and answers to lines about them."""

    def __init__(self):
        self._works = {}
        # An answer to each line that was said.
        self._answers = []

    def __len__(self):
        return len(self._answers)

    def __repr__(self):
        return f"Desk({len(self._answers)})"

    def said(self, line):
        """The answer to anything that is said as a line."""
        answer = self._answer(line)
        self._answers.append(answer)
        return answer

    def _answer(self, line):
        if not isinstance(line, str):
            return BAD_LINE
        head, end, text = line.partition("\n")
        words = head.split(" ")
        if words[0] == "open":
            return self._place(words[1], text) if end != "" and len(words) == 2 and is_name(words[1]) else BAD_LINE
        if end != "":
            return BAD_LINE
        if words == ["names"]:
            return listed(self.works())
        if not is_line(words):
            return BAD_LINE
        if words[1] not in self._works:
            return f"nothing called {words[1]}"
        work = self._works[words[1]]
        return done(work, words) if words[0] in EDIT_WORDS else asked(work, words)

    def _place(self, name, text):
        work, answer = opened(text)
        if work is not None:
            self._works[name] = work
        return answer

    def works(self):
        """A rising list of the NAMES of all WORKS."""
        return sorted(self._works)

    def work_of(self, name):
        """A Work that stands as that of a NAME, and goes on by itself."""
        if not is_one_of(name, self._works):
            raise NoSuch(name)
        return self._works[name].work_twin()


def all_said(lines):
    """A list of the answers of a new DESK to a list or tuple of lines."""
    if not isinstance(lines, (list, tuple)):
        raise BadKind("list")
    desk = Desk()
    return [desk.said(line) for line in lines]
