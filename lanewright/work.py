"""A PROGRAM that is worked on: turned, planned and sized, EDIT by EDIT, and back."""

from lanewright.compiled import kernels_of
from lanewright.counts import counts_at
from lanewright.errors import BadGiven, BadKind, BadNumber, BadPlan, BadSizes, BadTurn, Gone, Unfit, Unsafe
from lanewright.leastplan import least_plan
from lanewright.led import need_fit, run_led
from lanewright.parts import is_one_of, is_row, multiplied, sizes_by_name
from lanewright.plain import need_given
from lanewright.plans import is_fit, moved, plain_plans
from lanewright.programs import need_sizes
from lanewright.turns import safely, turn_paper, turned

MOST_MANY = 8
# How many things EDITS have, by their first words; those that have EDITS in them have another one.
EDIT_LENGTHS = {"turn": 2, "plan": 3, "least": 2, "sizes": 3}
MANY = "many"


class State:
    """How a Work stands; never changed once it is made."""

    def __init__(self, program, plans, sizes, given, turns):
        self.program_now = program
        # Of these a tuple: a PLAN for each nest.
        self.planned = plans
        self.sized = sizes
        self.gifts = given
        # From the first PROGRAM on, in order.
        self.turns_done = turns

    def parts(self):
        """That by which two are the same to whoever looks at them."""
        return self.program_now, self.planned, self.sized, self.gifts


def given_lengths(program, sizes):
    """A list of how many WORDS each "given" array has."""
    named = sizes_by_name(program, sizes)
    return [multiplied(counts_at(dims, named)) for _, kind, dims in program[1] if kind == "given"]


def is_edit(thing):
    """Whether anything is an EDIT by its form."""
    if is_plain_edit(thing):
        return True
    if not is_row(thing, 2, 2) or not is_one_of(thing[0], (MANY,)) or not is_row(thing[1], 1, MOST_MANY):
        return False
    return all([is_plain_edit(edit) for edit in thing[1]])


def is_plain_edit(thing):
    """Whether anything is an EDIT without others in it by its form."""
    if not isinstance(thing, tuple) or len(thing) == 0 or not is_one_of(thing[0], list(EDIT_LENGTHS)):
        return False
    return len(thing) == EDIT_LENGTHS[thing[0]]


def edited(state, edit):
    """The State behind an EDIT."""
    word = edit[0]
    if word == "turn":
        return turned_state(state, edit[1])
    if word == "sizes":
        return sized_state(state, edit[1], edit[2])
    if word == MANY:
        now = state
        for part in edit[1]:
            now = edited(now, part)
        return now
    if word == "plan":
        plan = edit[2]
        if not is_fit(state.program_now, edit[1], plan, state.sized):
            raise Unfit(edit[1])
    else:
        plan = least_plan(state.program_now, edit[1], state.sized)
    plans = (*state.planned[:edit[1]], plan, *state.planned[edit[1] + 1:])
    return State(state.program_now, plans, state.sized, state.gifts, state.turns_done)


def turned_state(state, turn):
    """The State behind a SAFE TURN."""
    program = safely(state.program_now, turn)
    plans = plans_behind(state.planned, turn, plain_plans(program))
    return State(program, plans, state.sized, state.gifts, (*state.turns_done, turn))


def plans_behind(plans, turn, plain):
    """PLANS as a TURN leaves them: nests that come of it have plain ones."""
    word, nest = turn[0], turn[1]
    if word == "part":
        return (*plans[:nest], plans[nest + 1], plans[nest], *plans[nest + 2:])
    taken = 2 if word == "fuse" else 1
    made = 2 if word == "split" else 1
    return (*plans[:nest], *plain[nest:nest + made], *plans[nest + taken:])


def sized_state(state, sizes, given):
    """The State with other sizes and GIVEN."""
    need_given(state.program_now, sizes, given)
    need_fit(state.program_now, state.planned, sizes)
    return State(state.program_now, state.planned, sizes, given, state.turns_done)


class Work:
    """A PROGRAM with the TURNS done to it, PLANS, sizes and GIVEN."""

    def __init__(self, program, *, sizes=None, given=None):
        plans = tuple(plain_plans(program))
        if sizes is None:
            sizes = (1,) * len(program[0])
        need_sizes(program, sizes)
        if given is None:
            given = tuple([(0,) * many for many in given_lengths(program, sizes)])
        need_given(program, sizes, given)
        self._first = program
        self._state = State(program, plans, sizes, given, ())
        # Pairs of an EDIT that stands and the State ahead of it; of one that can be redone, the State behind it.
        self._done = []
        self._undone = []
        self._rows = []

    def __eq__(self, other):
        return isinstance(other, Work) and self._state.parts() == other._state.parts()

    def __len__(self):
        return len(self._done)

    def __repr__(self):
        return f"Work({len(self._done)})"

    def do(self, edit):
        """Does an EDIT."""
        if not is_edit(edit):
            raise BadKind("edit")
        self._rows.append(("begin", edit[0]))
        try:
            behind = edited(self._state, edit)
        except (BadTurn, BadNumber, BadPlan, BadSizes, BadGiven, Unsafe, Unfit):
            self._rows.append(("end", edit[0], "refused"))
            raise
        self._undone.clear()
        self._add(edit, behind)
        self._rows.append(("end", edit[0], "done"))

    def _add(self, edit, behind):
        self._done.append((edit, self._state))
        self._state = behind

    def _begin(self, word, edits):
        """Notes what is begun; refuses it where there are no EDITS for it."""
        self._rows.append(("begin", word))
        if len(edits) == 0:
            self._rows.append(("end", word, "refused"))
            raise Gone("there is no such edit")

    def undo(self):
        """Takes the last EDIT back that stands, and tells it."""
        self._begin("undo", self._done)
        edit, ahead = self._done.pop()
        self._undone.append((edit, self._state))
        self._state = ahead
        self._rows.append(("end", "undo", "done"))
        return edit

    def redo(self):
        """Does the EDIT again that was undone last, and tells it."""
        self._begin("redo", self._undone)
        edit, behind = self._undone.pop()
        self._add(edit, behind)
        self._rows.append(("end", "redo", "done"))
        return edit

    def program(self):
        """The PROGRAM as it stands."""
        return self._state.program_now

    def plans(self):
        """A list of the PLANS of all nests."""
        return list(self._state.planned)

    def sizes(self):
        """The sizes as they stand."""
        return self._state.sized

    def given(self):
        """GIVEN as they stand."""
        return self._state.gifts

    def result(self):
        """The RESULT by the lanes."""
        return run_led(self.program(), self.plans(), self.sizes(), self.given())

    def moved(self):
        """A tuple of how many words are MOVED by each nest."""
        return tuple([moved(self.program(), nest, plan, self.sizes()) for nest, plan in enumerate(self.plans())])

    def kernels(self):
        """A list of the KERNELS of all nests."""
        return kernels_of(self.program(), self.plans())

    def ledger(self):
        """The LEDGER of all TURNS that stand, from the first PROGRAM on."""
        now = self._first
        found = []
        for turn in self._state.turns_done:
            found.append((turn, turn_paper(now, turn)))
            now = turned(now, turn)
        return tuple(found)

    def edits(self):
        """A list of the EDITS that stand."""
        return [edit for edit, _ in self._done]

    def log(self):
        """A tuple of the rows of the LOG."""
        return tuple(self._rows)

    def work_twin(self):
        """Another one that stands so, and goes on by itself."""
        twin = Work(self._first)
        twin._state = self._state
        twin._done = list(self._done)
        twin._undone = list(self._undone)
        twin._rows = list(self._rows)
        return twin
