"""A PROGRAM run by the lanes of its KERNELS, and KERNELS tried against the plain walk."""

from lanewright.clean import clash_of, words_moved
from lanewright.compiled import kernel_of, need_plans
from lanewright.errors import BadKind, Gone, Unfit
from lanewright.kernels import need_kernel
from lanewright.lanes import run_lanes
from lanewright.parts import arrays_by_name, is_row
from lanewright.plain import Trail, need_given, stand_behind, words_shown
from lanewright.plans import NEAR_MOST, near_by_plan

# Where the NAMES of local arrays stand in a PLAN.
LOCAL = 4


def need_led(program, plans, sizes, given):
    """None; refuses of anything what no run by PLANS can begin with."""
    need_plans(program, plans)
    need_given(program, sizes, given)


def need_fit(program, plans, sizes):
    """None; refuses the first PLAN that isn't FIT by these sizes."""
    for nest, plan in enumerate(plans):
        if near_by_plan(program, nest, plan, sizes) > NEAR_MOST:
            raise Unfit(nest)


def run_nest(program, nest, plan, sizes, stand, schedule):
    """The end, the WORDS MOVED and the STAND behind of a nest's KERNEL, run behind a STAND."""
    kernel = kernel_of(program, nest, plan)
    end, behind, events = run_lanes(program[0], program[1], kernel, sizes, stand, schedule=schedule)
    return end, words_moved(kernel, events), behind


def result_of(program, stand):
    """The RESULT that a STAND tells."""
    arrays = arrays_by_name(program[1])
    return tuple([(name, words) for name, words in stand if arrays[name][1] == "told"])


def run_led(program, plans, sizes, given, *, schedules=()):
    """The RESULT by the lanes, by SCHEDULES for the first KERNELS."""
    need_led(program, plans, sizes, given)
    if not is_row(schedules, 0, len(program[2])):
        raise BadKind("schedules")
    need_fit(program, plans, sizes)
    stand = stand_behind(program, sizes, given, -1)
    for nest, plan in enumerate(plans):
        schedule = schedules[nest] if nest < len(schedules) else ()
        _, _, stand = run_nest(program, nest, plan, sizes, stand, schedule)
    return result_of(program, stand)


def words_led(program, plans, sizes, given):
    """A tuple of the WORDS MOVED of each nest."""
    need_led(program, plans, sizes, given)
    need_fit(program, plans, sizes)
    stand = stand_behind(program, sizes, given, -1)
    found = []
    for nest, plan in enumerate(plans):
        _, moved, stand = run_nest(program, nest, plan, sizes, stand, ())
        found.append(moved)
    return tuple(found)


def need_tried(program, plans, kernels, sizes, given):
    """None; refuses of anything what no KERNELS can be TRIED by."""
    need_led(program, plans, sizes, given)
    if not isinstance(kernels, (list, tuple)) or len(kernels) != len(program[2]):
        raise BadKind("kernels")
    for kernel in kernels:
        need_kernel(program[0], program[1], kernel)


class Trial:
    """A walk along which the KERNELS of nest after nest are run behind the STAND that it has there."""

    def __init__(self, program, sizes, given):
        self._program = program
        self._sizes = sizes
        self._trail = Trail(program, sizes, given)
        # Of the nest that was tried last: what the walk stored, and where it stood ahead of that.
        self._rows = []
        self._before = {}

    def try_nest(self, nest, kernel):
        """The end, the STAND behind and the EVENTS of a KERNEL, beside which the walk goes through its nest."""
        stand = words_shown(self._trail.words)
        self._before = {(name, cell): self._trail.words[name][cell] for name in self._trail.words
                       for cell in self._trail.words[name]}
        many = len(self._trail.stored)
        self._trail.walk_nest(nest)
        self._rows = self._trail.stored[many:]
        return run_lanes(self._program[0], self._program[1], kernel, self._sizes, stand)

    def finding(self, stand, events, local):
        """The FINDING of a KERNEL that comes to this STAND by these EVENTS; None of one that comes to the walk's."""
        for name, words in [pair for pair in stand if pair[0] not in local]:
            due = self._trail.words[name]
            for cell, worth in zip(due, words):
                if worth != due[cell]:
                    stores = [event for event in events if event[3:6] == ("store", name, cell)]
                    rows = [row for row in self._rows if row[3:5] == (name, cell)]
                    return name, cell, due[cell], worth, last_of(stores), last_of(rows)
        return None

    def first_wrong(self, events, local):
        """The FIRST EVENT that errs; None without one."""
        right = {(row[3], row[4], row[5]): True for row in self._rows}
        for event in events:
            _, _, _, kind, name, cell, worth = event
            if kind != "store" or name in local or name not in self._trail.words:
                continue
            if worth != self._before[(name, cell)] and (name, cell, worth) not in right:
                return event
        return None


def last_of(things):
    """The last of a list; None of none."""
    return things[-1] if len(things) > 0 else None


def tried(program, plans, kernels, sizes, given):
    """(NEST, WORD, ABOUT) of the first nest whose KERNEL errs; None where none does."""
    need_tried(program, plans, kernels, sizes, given)
    trial = Trial(program, sizes, given)
    for nest, kernel in enumerate(kernels):
        end, stand, events = trial.try_nest(nest, kernel)
        if end != ("over",):
            return nest, "end", end
        clash = clash_of(kernel, events)
        if clash is not None:
            return nest, "clash", clash
        found = trial.finding(stand, events, plans[nest][LOCAL])
        if found is not None:
            return nest, "cell", found
    return None


def first_event(program, plans, kernels, sizes, given):
    """(NEST, EVENT) of the first nest that has a FIRST EVENT that errs; None without one."""
    need_tried(program, plans, kernels, sizes, given)
    trial = Trial(program, sizes, given)
    for nest, kernel in enumerate(kernels):
        _, _, events = trial.try_nest(nest, kernel)
        event = trial.first_wrong(events, plans[nest][LOCAL])
        if event is not None:
            return nest, event
    return None


class Line:
    """A run by the lanes that is gone on with KERNEL by KERNEL, and back."""

    def __init__(self, program, plans, sizes, given):
        need_led(program, plans, sizes, given)
        need_fit(program, plans, sizes)
        self._program = program
        self._plans = list(plans)
        self._sizes = sizes
        self._given = given
        # The STAND at the beginning, and that behind each KERNEL that was run.
        self._stands = [stand_behind(program, sizes, given, -1)]

    def __eq__(self, other):
        if not isinstance(other, Line) or len(self._stands) != len(other._stands):
            return False
        if (self._program, self._plans) != (other._program, other._plans):
            return False
        return (self._sizes, self._given) == (other._sizes, other._given)

    def __len__(self):
        return len(self._plans)

    def __repr__(self):
        return f"Line({len(self._stands) - 1})"

    def step(self, schedule=()):
        """Runs the next KERNEL; its end, and the WORDS MOVED."""
        nest = self.at()
        if nest == len(self._plans):
            raise Gone("all kernels were run")
        end, moved, behind = run_nest(self._program, nest, self._plans[nest], self._sizes, self._stands[-1], schedule)
        self._stands.append(behind)
        return end, moved

    def back(self):
        """Takes the last KERNEL back; how many were run ahead of it."""
        if self.at() == 0:
            raise Gone("no kernel was run")
        self._stands.pop()
        return self.at()

    def at(self):
        """How many KERNELS were run."""
        return len(self._stands) - 1

    def stand(self):
        """The STAND now."""
        return self._stands[-1]

    def result(self):
        """The RESULT."""
        if self.at() != len(self._plans):
            raise Gone("not all kernels were run yet")
        return result_of(self._program, self.stand())

    def line_twin(self):
        """Another one that stands so, and goes on by itself."""
        twin = Line(self._program, self._plans, self._sizes, self._given)
        twin._stands = list(self._stands)
        return twin
