"""The errors of the program: their fields tell what was refused.

The texts are fixed ones, since what is refused may be anything, even what can't be shown.
"""


class LaneError(ValueError):
    """Over all errors of what is of a wrong form; never raised itself."""


class BadProgram(LaneError):
    """What is no PROGRAM; place tells where it is none."""

    def __init__(self, place):
        super().__init__("this is no program")
        self.place = place


class BadSizes(LaneError):
    """Sizes that a PROGRAM can't have; about tells which."""

    def __init__(self, about):
        super().__init__("these are no sizes of the program")
        self.about = about


class BadGiven(LaneError):
    """Words that arrays can't be given; about tells of which."""

    def __init__(self, about):
        super().__init__("these words can't be given")
        self.about = about


class BadTurn(LaneError):
    """What is no TURN of a PROGRAM; about tells which part of it."""

    def __init__(self, about):
        super().__init__("this is no turn of the program")
        self.about = about


class BadPlan(LaneError):
    """What is no PLAN of a nest; about tells which part of it."""

    def __init__(self, about):
        super().__init__("this is no plan of the nest")
        self.about = about


class BadKernel(LaneError):
    """What is no KERNEL; place tells where it is none."""

    def __init__(self, place):
        super().__init__("this is no kernel")
        self.place = place


class BadPaper(LaneError):
    """A paper that shows nothing; about tells where it fails."""

    def __init__(self, about):
        super().__init__("this paper doesn't show it")
        self.about = about


class BadLine(LaneError):
    """A text that can't be read; row and word tell where, both from 1."""

    def __init__(self, row, word):
        super().__init__("this can't be read")
        self.row = row
        self.word = word


class BadSchedule(LaneError):
    """What is no SCHEDULE; about tells the first that is no lane."""

    def __init__(self, about):
        super().__init__("this is no schedule")
        self.about = about


class Lack(LookupError):
    """Over all errors of what isn't there; never raised itself."""


class NoSuch(Lack):
    """Nothing is called by this name."""

    def __init__(self, name):
        super().__init__("nothing is called so")
        self.name = name


class Gone(Lack):
    """What is asked for isn't there yet, or any more."""


class Cant(RuntimeError):
    """Over all errors of what is well formed, but can't be done; never raised itself."""


class Unsafe(Cant):
    """A TURN that isn't SAFE; meeting tells why."""

    def __init__(self, meeting):
        super().__init__("this turn isn't safe")
        self.meeting = meeting


class Unfit(Cant):
    """A PLAN that isn't FIT, or a nest that can have none; about tells which."""

    def __init__(self, about):
        super().__init__("this doesn't fit")
        self.about = about


class Full(Cant):
    """No more than so many are taken; most tells how many."""

    def __init__(self, most):
        super().__init__("there is no room for more")
        self.most = most


class BadKind(TypeError):
    """A thing of a wrong kind; wanted tells what was wanted."""

    def __init__(self, wanted):
        super().__init__("another kind of thing is wanted here")
        self.wanted = wanted


class BadNumber(IndexError):
    """A number of nothing; about is what was handed in."""

    def __init__(self, about):
        super().__init__("this is the number of nothing here")
        self.about = about
