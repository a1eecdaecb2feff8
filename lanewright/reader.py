"""Texts read word by word: what single words tell, and where a text is that can't be read."""

from lanewright.counts import MOST_FIXED, MOST_TERMS, MOST_TIMES
from lanewright.errors import BadLine
from lanewright.kernels import REGISTERS
from lanewright.programs import MOST_DIMS, MOST_MORE
from lanewright.words import WORDS, is_name

FIGURES = "0123456789"
# As many figures as the greatest WORD has.
MOST_FIGURES = 5


class Reader:
    """A text that is read word by word, and row by row."""

    def __init__(self, text):
        if not isinstance(text, str):
            raise BadLine(0, 0)
        self.rows = [row.split(" ") for row in text.split("\n")]
        self.row = 0
        self.word = 0

    def has_word(self):
        """Whether the row has a word more."""
        return self.row < len(self.rows) and self.word < len(self.rows[self.row])

    def seen(self):
        """The word that comes next, "" where one lacks: that can stand nowhere."""
        return self.rows[self.row][self.word] if self.has_word() else ""

    def take(self, found):
        """What the word that comes next tells, and goes on; None of one that can't stand there, which is refused."""
        if found is None:
            raise BadLine(self.row + 1, self.word + 1)
        self.word += 1
        return found

    def take_one_of(self, words):
        """The word that comes next, one of these."""
        word = self.seen()
        return self.take(word if word in words else None)

    def take_name(self):
        """The NAME that comes next."""
        word = self.seen()
        return self.take(word if is_name(word) else None)

    def take_number(self, least, most):
        """The number from least to most that comes next."""
        return self.take(number_of(self.seen(), least, most))

    def take_count(self):
        """The COUNT that comes next."""
        return self.take(count_of(self.seen()))

    def take_register(self):
        """The register that comes next."""
        return self.take(register_of(self.seen()))

    def take_operand(self):
        """The operand that comes next."""
        return self.take(operand_of(self.seen()))

    def end_row(self):
        """Goes on to the next row, where there is no word more."""
        if self.has_word():
            raise BadLine(self.row + 1, self.word + 1)
        self.row += 1
        self.word = 0

    def end_text(self):
        """Refuses a row more."""
        if self.row < len(self.rows):
            raise BadLine(self.row + 1, 1)


def number_of(word, least, most):
    """The number from least to most that a word tells; None of another word."""
    if not 1 <= len(word) <= MOST_FIGURES or not all([sign in FIGURES for sign in word]):
        return None
    if word[0] == "0" and len(word) > 1:
        return None
    number = int(word)
    return number if least <= number <= most else None


def count_of(word):
    """The COUNT that a word tells; None of another word."""
    head, minus, tail = word.partition("-")
    parts = head.split("+")
    fixed = 0
    if minus != "":
        less = number_of(tail, 1, MOST_FIXED)
        if less is None:
            return None
        if head == "":
            return -less, ()
        fixed = -less
    elif number_of(parts[-1], 0, MOST_FIXED) is not None:
        fixed = int(parts.pop())
        if len(parts) == 0:
            return fixed, ()
        # Beside TERMS a 0 isn't written.
        if fixed == 0:
            return None
    terms = [term_of(part) for part in parts]
    if len(terms) > MOST_TERMS or None in terms:
        return None
    names = [name for name, _ in terms]
    rises = all([one < other for one, other in zip(names, names[1:])])
    return (fixed, tuple(terms)) if rises else None


def term_of(part):
    """The pair of TERMS that a part of a word tells; None of another one."""
    times = number_of(part[:1], 2, MOST_TIMES)
    name = part if times is None else part[1:]
    if not is_name(name):
        return None
    return name, 1 if times is None else times


def named_by(word):
    """The NAME behind the ":" of a word; None of another word."""
    return word[1:] if word[:1] == ":" and is_name(word[1:]) else None


def cell_of(word):
    """The pair of an array's NAME and INDEXES that a word tells; None of another word."""
    name, _, rest = word.partition("[")
    if not is_name(name) or rest[-1:] != "]":
        return None
    indexes = [index_of(part) for part in rest[:-1].split(",")]
    if len(indexes) > MOST_DIMS or None in indexes:
        return None
    return name, tuple(indexes)


def index_of(part):
    """The INDEX that a part of a word tells; None of another one."""
    alone = number_of(part, 0, MOST_MORE)
    if alone is not None:
        return "", alone
    name, plus, tail = part.partition("+")
    more = 0 if plus == "" else number_of(tail, 1, MOST_MORE)
    return (name, more) if is_name(name) and more is not None else None


def leaf_of(word):
    """The EXPR that a word tells alone; None of another word."""
    number = number_of(word, 0, WORDS - 1)
    if number is not None:
        return "num", number
    name = named_by(word)
    if name is not None:
        return "loop", name
    cell = cell_of(word)
    return None if cell is None else ("at", cell[0], cell[1])


def register_of(word):
    """The number of the register that a word tells; None of another word."""
    return number_of(word[1:], 0, REGISTERS - 1) if word[:1] == "r" else None


def operand_of(word):
    """The operand that a word tells; None of another word."""
    if word in ("lane", "group"):
        return (word,)
    number = number_of(word, 0, WORDS - 1)
    if number is not None:
        return "num", number
    place = register_of(word)
    if place is not None:
        return "reg", place
    name = named_by(word)
    return None if name is None else ("size", name)


def names_of(word):
    """A tuple of the NAMES that a word tells; None of another word."""
    names = word.split(",")
    return tuple(names) if all([is_name(name) for name in names]) else None
