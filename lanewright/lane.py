"""One lane, and its way through the rows of a KERNEL."""

from lanewright.kernels import REGISTERS, rows_by_path
from lanewright.words import reckoned


class Course:
    """The rows of a KERNEL by their PATHS, and which one comes next; None where there is no more."""

    def __init__(self, kernel):
        self.rows = rows_by_path(kernel)
        self.start = (0,) if len(self.rows) > 0 else None
        self.behind = {path: path_behind(self.rows, path) for path in self.rows}
        self.within = {path: path_within(self.rows, path) for path in self.rows}


def path_behind(rows, path):
    """The PATH of the row that comes behind a row and all in it; None behind the last one."""
    beside = (*path[:-1], path[-1] + 1)
    if beside in rows:
        return beside
    above = path[:-1]
    if len(above) == 0:
        return None
    # A loop asks again whether to go on, an "if" is over with its last row.
    return above if rows[above][0] == "loop" else path_behind(rows, above)


def path_within(rows, path):
    """The PATH of the row that comes when a row lets go into its own."""
    inner = (*path, 0)
    if inner in rows:
        return inner
    return path if rows[path][0] == "loop" else path_behind(rows, path)


def made_of(op, one, other):
    """The WORD that a "do" makes of two."""
    if op == "less":
        return 1 if one < other else 0
    if op == "div":
        return 0 if other == 0 else one // other
    if op == "rest":
        return 0 if other == 0 else one % other
    return reckoned(op, one, other)


class Lane:
    """A lane: the row that it does next, its registers, the loops in which it is, the fences that it is behind."""

    def __init__(self, who, start, named):
        self.who = who
        self.path = start
        self.worths = [0] * REGISTERS
        # By the PATHS of loops: where each one is, and what it must stay below.
        self.loops = {}
        self.fences = 0
        self.named = named

    def lane_twin(self):
        """Another one that stands so."""
        twin = Lane(self.who, self.path, self.named)
        twin.worths = list(self.worths)
        twin.loops = {path: self.loops[path] for path in self.loops}
        twin.fences = self.fences
        return twin

    def standing(self):
        """All that changes of it."""
        return self.path, self.worths, self.loops, self.fences

    def asked(self, operand):
        """What an operand tells."""
        word = operand[0]
        if word == "reg":
            return self.worths[operand[1]]
        if word == "num":
            return operand[1]
        if word == "size":
            return self.named[operand[1]]
        return self.who[1] if word == "lane" else self.who[0]

    def cell_told(self, operands):
        """The CELL that operands tell."""
        return tuple([self.asked(operand) for operand in operands])

    def do_row(self, course):
        """Does its next row, one that neither loads nor stores, nor is a fence."""
        row = course.rows[self.path]
        if row[0] == "loop":
            self.ask_loop(row, course)
            return
        if row[0] == "if":
            goes_in = self.asked(row[1]) != 0
            self.path = course.within[self.path] if goes_in else course.behind[self.path]
            return
        if row[0] == "set":
            self.worths[row[1]] = self.asked(row[2])
        else:
            self.worths[row[2]] = made_of(row[1], self.asked(row[3]), self.asked(row[4]))
        self.path = course.behind[self.path]

    def ask_loop(self, row, course):
        """Does the head of a loop."""
        path = self.path
        if path in self.loops:
            spot, end = self.loops[path]
            spot = spot + 1
        else:
            spot, end = self.asked(row[2]), self.asked(row[3])
        self.worths[row[1]] = spot
        if spot < end:
            self.loops[path] = (spot, end)
            self.path = course.within[path]
        else:
            self.loops.pop(path, None)
            self.path = course.behind[path]
