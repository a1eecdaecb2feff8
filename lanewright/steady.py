"""STEADY KERNELS: papers that show that no lane ever stands at a fence for good."""

from lanewright.errors import BadPaper
from lanewright.kernels import REGISTERS, need_kernel, rows_below, rows_by_path, rows_in
from lanewright.parts import is_row, is_same
from lanewright.words import is_whole

# Registers are kept as the bits of a number: here all of them.
ALL_BITS = 4294967295
NESTING = ("loop", "if")


class Looker:
    """What registers are LIKE ahead of the rows of a KERNEL, and what that allows."""

    def __init__(self, kernel, have):
        self.rows = rows_by_path(kernel)
        # By PATHS: the registers that a paper tells, and those that a row, or one within it, sets.
        self.have = have
        self.changes = {path: bits_set_in(self.rows[path]) for path in self.rows}

    def has_like(self, path):
        """Whether all operands of a row are LIKE."""
        return all([is_like(operand, self.have[path]) for operand in operands_of(self.rows[path])])

    def like_behind(self, path):
        """The registers that are LIKE behind a row."""
        row, ahead = self.rows[path], self.have[path]
        if row[0] in ("set", "do") and self.has_like(path):
            return ahead | self.changes[path]
        if row[0] not in NESTING or not self.has_like(path):
            return ahead & ~self.changes[path]
        many = len(rows_in(row))
        if many > 0:
            ahead = ahead & self.like_behind((*path, many - 1))
        return ahead | bit_of(row[1]) if row[0] == "loop" else ahead

    def may_have(self, path):
        """The registers that may be LIKE ahead of a row."""
        above = path[:-1]
        if path[-1] > 0:
            found = self.like_behind((*above, path[-1] - 1))
        elif len(above) == 0:
            return ALL_BITS
        elif self.rows[above][0] == "if" and self.has_like(above):
            found = self.have[above]
        else:
            found = self.like_behind(above)
        for around in self.unlike_around(path):
            found = found & ~self.changes[around]
        return found

    def unlike_around(self, path):
        """A list of the PATHS of rows in which a row stands that have an operand that isn't LIKE."""
        around = [path[:many] for many in range(1, len(path))]
        return [above for above in around if not self.has_like(above)]

    def can_stand(self, path):
        """Whether a row can stand where it does: a fence can't where not all lanes of a group come together."""
        return self.rows[path][0] != "fence" or len(self.unlike_around(path)) == 0


def bit_of(number):
    """The bit that stands for a register."""
    return 1 << number


def bits_of(registers):
    """The number that stands for some unlike registers."""
    return sum([bit_of(number) for number in registers])


def registers_in(bits):
    """A rising tuple of the registers for which a number stands."""
    return tuple([number for number in range(REGISTERS) if bits & bit_of(number) != 0])


def bits_set_in(row):
    """The registers that a row, or one within it, sets."""
    found = own_bits(row)
    for inner in rows_below(rows_in(row), ()).values():
        found = found | own_bits(inner)
    return found


def own_bits(row):
    """The register that a row sets, those within it left out; none of most rows."""
    if row[0] == "do":
        return bit_of(row[2])
    return bit_of(row[1]) if row[0] in ("set", "load", "loop") else 0


def operands_of(row):
    """A list of the operands by which a row is LIKE or not."""
    if row[0] == "set":
        return [row[2]]
    if row[0] == "do":
        return [row[3], row[4]]
    if row[0] == "loop":
        return [row[2], row[3]]
    return [row[1]] if row[0] == "if" else []


def is_like(operand, bits):
    """Whether an operand is LIKE where these registers are."""
    if operand[0] == "reg":
        return bits & bit_of(operand[1]) != 0
    return operand[0] != "lane"


def like_paper(sizes, arrays, kernel):
    """The RIGHT LIKE PAPER with as many registers as can be at each row; None of a KERNEL that has none."""
    need_kernel(sizes, arrays, kernel)
    looker = Looker(kernel, {path: ALL_BITS for path in rows_by_path(kernel)})
    # A row only ever loses registers, and none that some RIGHT paper has there: so the greatest one is left.
    while lose_some(looker):
        pass
    if not all([looker.can_stand(path) for path in looker.rows]):
        return None
    return tuple([(path, registers_in(looker.have[path])) for path in looker.rows])


def lose_some(looker):
    """Takes from each row what it may not have by the others; whether there was any."""
    lost = False
    for path in looker.rows:
        left = looker.have[path] & looker.may_have(path)
        lost = lost or left != looker.have[path]
        looker.have[path] = left
    return lost


def check_like(sizes, arrays, kernel, paper):
    """None; refuses of anything what is no RIGHT LIKE PAPER."""
    need_kernel(sizes, arrays, kernel)
    paths = list(rows_by_path(kernel))
    if not is_paper(paths, paper):
        raise BadPaper(None)
    looker = Looker(kernel, {row[0]: bits_of(row[1]) for row in paper})
    for path in paths:
        if looker.have[path] & ~looker.may_have(path) != 0 or not looker.can_stand(path):
            raise BadPaper(path)


def is_paper(paths, thing):
    """Whether anything is a tuple of pairs of these PATHS and rising tuples of registers."""
    if not is_row(thing, len(paths), len(paths)):
        return False
    return all([is_paper_row(path, row) for path, row in zip(paths, thing)])


def is_paper_row(path, thing):
    """Whether anything is a pair of a PATH and a rising tuple of registers."""
    if not is_row(thing, 2, 2) or not is_same(thing[0], path) or not is_row(thing[1], 0, REGISTERS):
        return False
    registers = thing[1]
    if not all([is_whole(number, most=REGISTERS - 1) for number in registers]):
        return False
    return all([one < other for one, other in zip(registers, registers[1:])])


def is_steady(sizes, arrays, kernel):
    """Whether a KERNEL has a RIGHT LIKE PAPER."""
    return like_paper(sizes, arrays, kernel) is not None
