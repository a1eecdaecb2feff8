"""Another reader of texts: it tells by the forms of words which word is the first that can't stand where it does."""

import re

NAME = re.compile("[a-z]{1,8}").fullmatch
INDEX = "(?:[a-z]{1,8}(?:[+][1-9])?|[0-9])"
CELL = re.compile(r"[a-z]{1,8}\[" + INDEX + "(?:," + INDEX + r")?\]").fullmatch
TERM = "[23]?[a-z]{1,8}"
TERMS = re.compile("(" + TERM + "(?:[+]" + TERM + "){0,2})(?:[+-]([1-9][0-9]?))?").fullmatch
FIXED = re.compile("0|-?([1-9][0-9]?)").fullmatch
OPS = ["add", "sub", "mul", "min", "max"]


def whole(low, high):
    return lambda word: bool(re.fullmatch("0|[1-9][0-9]*", word)) and len(word) < 9 and low <= int(word) <= high


def one_of(*words):
    return lambda word: word in words


def names(word):
    return all(NAME(name) for name in word.split(","))


def count(word):
    found = FIXED(word)
    if found:
        return int(found[1] or 0) <= 20
    found = TERMS(word)
    if not found or int(found[2] or 0) > 20:
        return False
    rising = [term.lstrip("23") for term in found[1].split("+")]
    return rising == sorted(set(rising))


def register(word):
    return word[:1] == "r" and whole(0, 31)(word[1:])


def operand(word):
    return word in ("lane", "group") or whole(0, 65535)(word) or register(word) or bool(word[:1] == ":" and NAME(word[1:]))


def leaf(word):
    return whole(0, 65535)(word) or bool(CELL(word)) or bool(word[:1] == ":" and NAME(word[1:]))


def wrong_word(words, forms):
    """The number, from 1, of the first word by which none of the rows of forms can go on; None where one fits whole."""
    furthest = 0
    for form in forms:
        good = 0
        while good < min(len(words), len(form)) and form[good](words[good]):
            good += 1
        if good == len(words) == len(form):
            return None
        furthest = max(furthest, good + 1)
    return furthest


def wrong_in_step(words):
    """Likewise of a STEP's row."""
    if len(words) < 2 or not CELL(words[1]):
        return 2
    try:
        end = expr_end(words, 2, 1)
    except Wrong as wrong:
        return wrong.args[0] + 1
    return None if end == len(words) else end + 1


class Wrong(Exception):
    pass


def expr_end(words, start, deep):
    if deep > 5 or start == len(words):
        raise Wrong(start)
    if words[start] in OPS:
        return expr_end(words, expr_end(words, start + 1, deep + 1), deep + 1)
    if not leaf(words[start]):
        raise Wrong(start)
    return start + 1


def optional(*forms):
    """All rows of forms in which the last ones are there or not."""
    return [list(forms[:many]) for many in range(1, len(forms) + 1)]


KIND = one_of("given", "told", "own")
PROGRAM_FORMS = {
    "sizes": [[one_of("sizes")] + row for row in optional(NAME, NAME, NAME)],
    "array": [[one_of("array"), NAME, KIND] + row for row in optional(count, count)],
    "nest": [[one_of("nest")]],
    "loop": [[one_of("loop"), NAME, count]],
}
LETTERS = {"sizes": "S", "array": "A", "nest": "N", "loop": "L", "put": "P", "add": "P"}
AHEAD = re.compile("S(A{0,6}|A{1,6}(NL{1,3}P{1,4}){0,4}N(L{0,3}|L{1,3}P{1,4}))").fullmatch
WHOLE = re.compile("SA{1,6}(NL{1,3}P{1,4}){1,5}").fullmatch


def wrong_program(text):
    """(ROW, WORD) of the first that can't stand there in a PROGRAM's text; None of a good one."""
    letters = ""
    rows = text.split("\n")
    for number, row in enumerate(rows, 1):
        words = row.split(" ")
        letters += LETTERS.get(words[0], "?")
        if not AHEAD(letters):
            return (number, 1)
        wrong = wrong_in_step(words) if letters[-1] == "P" else wrong_word(words, PROGRAM_FORMS[words[0]])
        if wrong is not None:
            return (number, wrong)
    return None if WHOLE(letters) else (len(rows) + 1, 1)


def wrong_row(text, forms):
    """Likewise of a text of one row."""
    rows = text.split("\n")
    wrong = wrong_word(rows[0].split(" "), forms)
    if wrong is not None:
        return (1, wrong)
    return (2, 1) if len(rows) > 1 else None


def wrong_count(text):
    return wrong_row(text, [[count]])


NEST, SPOT = whole(0, 4), whole(0, 2)
TURNS = [[one_of("fuse", "part"), NEST], [one_of("split"), NEST, whole(1, 3)]] + [[one_of("swap"), NEST] + row for row in optional(SPOT, SPOT, SPOT)]


def wrong_turn(text):
    return wrong_row(text, TURNS)


def wrong_plan(text, loops):
    forms = [[one_of("plan"), one_of(*loops), whole(1, 8)]]
    for use in ("near", "held", "local"):
        forms += [form + [one_of(use), names] for form in forms]
    return wrong_row(text, forms)


SOURCE = [one_of("at"), NEST, one_of("-", "0", "1", "2", "3")]
A = operand
KERNEL_FORMS = {
    "near": [[one_of("near"), NAME] + row for row in optional(count, count)],
    "set": [[one_of("set"), register, A]],
    "do": [[one_of("do"), one_of(*OPS, "less", "div", "rest"), register, A, A]],
    "load": [[one_of("load"), register, NAME] + row + more for row in ([A], [A, A]) for more in ([], SOURCE)],
    "store": [[one_of("store"), NAME] + row + more for row in ([A, A], [A, A, A]) for more in ([], SOURCE)],
    "loop": [[one_of("loop"), register, A, A]],
    "if": [[one_of("if"), A]],
    "fence": [[one_of("fence")]],
}


def wrong_kernel(text):
    """Likewise of a KERNEL's text."""
    rows = [row.split(" ") for row in text.split("\n")]
    wrong = wrong_word(rows[0], [[one_of("kernel"), whole(1, 8), count]])
    if wrong is not None:
        return (1, wrong)
    nears = many = 0
    most = 0
    for number, words in enumerate(rows[1:], 2):
        dots = 0
        while dots < len(words) and words[dots] == ".":
            dots += 1
            if dots > most:
                return (number, dots)
        rest = words[dots:] or [""]
        may = rest[0] in KERNEL_FORMS and many < 400
        if rest[0] == "near":
            may = nears < 6 and many == 0
        if not may:
            # In the place of a "near" any other row may come.
            if rest[0] == "near" or rest[0] not in KERNEL_FORMS or many == 400:
                return (number, dots + 1)
        wrong = wrong_word(rest, KERNEL_FORMS[rest[0]])
        if wrong is not None:
            return (number, dots + wrong)
        if rest[0] == "near":
            nears += 1
        else:
            many += 1
            most = min(dots + 1, 5) if rest[0] in ("loop", "if") else dots
    return None
