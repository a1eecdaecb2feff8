"""The lanes of a KERNEL, run beside one another by whatever SCHEDULE."""

from lanewright.clean import clash_of
from lanewright.counts import count_at, counts_at
from lanewright.errors import BadGiven, BadNumber, BadSchedule, Gone, NoSuch
from lanewright.kernels import need_kernel
from lanewright.lane import Course, Lane
from lanewright.parts import is_row, is_same, multiplied, spots_below
from lanewright.plain import are_words
from lanewright.programs import need_sizes_by
from lanewright.words import is_whole

MOST_TURNS = 2000000


class Lanes:
    """A RUN of a KERNEL, gone on with TURN by TURN, or to its end."""

    def __init__(self, sizes, arrays, kernel, at, stand, *, most=MOST_TURNS):
        need_kernel(sizes, arrays, kernel)
        need_sizes_by(sizes, at)
        named = dict(zip(sizes, at))
        need_stand(arrays, named, stand)
        if not is_whole(most, most=MOST_TURNS):
            raise BadNumber(most)
        self._handed = (sizes, arrays, kernel, at, stand, most)
        self._course = Course(kernel)
        many, count = kernel[0], count_at(kernel[1], named)
        # A list of lanes for each group.
        self._groups = [[Lane((group, lane), self._course.start, named) for lane in range(many)]
                        for group in range((count + many - 1) // many)]
        self._cells = {}
        for name, dims in [(array[0], array[2]) for array in arrays] + list(kernel[2]):
            self._cells[name] = {cell: True for cell in spots_below(counts_at(dims, named))}
        self._far = {name: dict(zip(self._cells[name], words)) for name, words in stand}
        # Cells of near arrays that nothing was stored to yet aren't there: they are 0.
        self._near = [{near[0]: {} for near in kernel[2]} for _ in self._groups]
        self._events = []
        self._turns = 0
        # The end in the place of a TURN; None as long as there is none.
        self._cut = None

    def __eq__(self, other):
        if not isinstance(other, Lanes) or self._handed != other._handed:
            return False
        # What arrays hold comes of what was handed in and of the EVENTS alone.
        if (self._turns, self._cut, self._events) != (other._turns, other._cut, other._events):
            return False
        return [lane.standing() for lane in self._all()] == [lane.standing() for lane in other._all()]

    def __len__(self):
        return len(self._events)

    def __repr__(self):
        return f"Lanes({self._turns})"

    def turn(self, group, lane):
        """The EVENT of the row done, () of another row; None where there is no TURN, or the RUN ends in its place."""
        found = self._lane(group, lane)
        return self._turn(found) if self._can_turn(found) else None

    def run(self, schedule=()):
        """Runs to the end, by a SCHEDULE first; how many TURNS came."""
        if not isinstance(schedule, tuple):
            raise BadSchedule(None)
        for number, who in enumerate(schedule):
            if not is_row(who, 2, 2) or not self._is_lane(who[0], who[1]):
                raise BadSchedule(number)
        before = self._turns
        for group, number in schedule:
            lane = self._groups[group][number]
            if self._can_turn(lane):
                self._turn(lane)
        # No group's lanes wait for another one's: so this goes by the PLAIN SCHEDULE.
        for lanes in self._groups:
            self._run_group(lanes)
        return self._turns - before

    def _run_group(self, lanes):
        lane = self._first_ready(lanes)
        while lane is not None:
            self._turn(lane)
            # Only a lane that is over or at a fence can give another one a TURN.
            while self._cut is None and lane.path is not None and not self._is_at_fence(lane):
                self._turn(lane)
            lane = self._first_ready(lanes)

    def _first_ready(self, lanes):
        for lane in lanes:
            if self._can_turn(lane):
                return lane
        return None

    def _is_at_fence(self, lane):
        return self._course.rows[lane.path][0] == "fence"

    def _can_turn(self, lane):
        if self._cut is not None or lane.path is None:
            return False
        if not self._is_at_fence(lane):
            return True
        return all([other.path is None or other.path == lane.path for other in self._groups[lane.who[0]]])

    def _turn(self, lane):
        """Does the next row of a lane that has a TURN."""
        if self._turns == self._handed[-1]:
            self._cut = ("long",)
            return None
        word = self._course.rows[lane.path][0]
        told = ()
        if word in ("load", "store"):
            told = self._move(lane)
        elif word == "fence":
            self._pass_fence(lane)
        else:
            lane.do_row(self._course)
        if told is not None:
            self._turns += 1
        return told

    def _move(self, lane):
        """The EVENT of a load or store; None where there is no such CELL, and the RUN ends."""
        row = self._course.rows[lane.path]
        kind = row[0]
        name, operands = (row[2], row[3]) if kind == "load" else (row[1], row[2])
        cell = lane.cell_told(operands)
        if cell not in self._cells[name]:
            self._cut = ("outside", lane.who, lane.path)
            return None
        words = self._far[name] if name in self._far else self._near[lane.who[0]][name]
        if kind == "load":
            worth = words.get(cell, 0)
            lane.worths[row[1]] = worth
        else:
            worth = lane.asked(row[3])
            words[cell] = worth
        event = (lane.who, lane.fences, lane.path, kind, name, cell, worth)
        self._events.append(event)
        lane.path = self._course.behind[lane.path]
        return event

    def _pass_fence(self, lane):
        behind = self._course.behind[lane.path]
        for other in self._groups[lane.who[0]]:
            if other.path is not None:
                other.path = behind
                other.fences += 1

    def _is_group(self, group):
        return is_whole(group, most=len(self._groups) - 1)

    def _is_lane(self, group, lane):
        return self._is_group(group) and is_whole(lane, most=len(self._groups[group]) - 1)

    def _lane(self, group, lane):
        if not self._is_lane(group, lane):
            raise NoSuch((group, lane))
        return self._groups[group][lane]

    def _all(self):
        """A list of all lanes, rising."""
        return [lane for lanes in self._groups for lane in lanes]

    def has_turn(self, group, lane):
        """Whether a lane has a TURN."""
        return self._can_turn(self._lane(group, lane))

    def path_of(self, group, lane):
        """The PATH of the row that a lane does next; None of one that is over."""
        return self._lane(group, lane).path

    def registers(self, group, lane):
        """A tuple of what a lane's registers have."""
        return tuple(self._lane(group, lane).worths)

    def interval(self, group, lane):
        """How many fences a lane is behind."""
        return self._lane(group, lane).fences

    def lanes_there(self):
        """A rising tuple of all lanes."""
        return tuple([lane.who for lane in self._all()])

    def is_over(self):
        """Whether the RUN is at its end."""
        return not any([self._can_turn(lane) for lane in self._all()])

    def end(self):
        """The end of the RUN."""
        if self._cut is not None:
            return self._cut
        if not self.is_over():
            raise Gone("the run isn't at its end")
        for lane in self._all():
            if lane.path is not None:
                return "stuck", lane.who, lane.path
        return ("over",)

    def far(self):
        """The STAND now."""
        return self._shown(self._far)

    def near(self, group):
        """A tuple of pairs of a group's near arrays and their WORDS."""
        if not self._is_group(group):
            raise NoSuch(group)
        return self._shown(self._near[group])

    def _shown(self, words):
        return tuple([(name, tuple([words[name].get(cell, 0) for cell in self._cells[name]])) for name in words])

    def events(self):
        """A tuple of the EVENTS, as they came."""
        return tuple(self._events)

    def turns(self):
        """How many TURNS came."""
        return self._turns

    def clash(self):
        """The first EVENTS that CLASH, as clash_of tells them; None without any."""
        return clash_of(self._handed[2], self._events)

    def lanes_twin(self):
        """Another RUN that stands so, and goes on by itself."""
        sizes, arrays, kernel, at, stand, most = self._handed
        twin = Lanes(sizes, arrays, kernel, at, stand, most=most)
        twin._groups = [[lane.lane_twin() for lane in lanes] for lanes in self._groups]
        twin._far = copied(self._far)
        twin._near = [copied(words) for words in self._near]
        twin._events = list(self._events)
        twin._turns = self._turns
        twin._cut = self._cut
        return twin


def copied(words):
    """A dict from NAMES to dicts from CELLS to WORDS, copied."""
    return {name: {cell: words[name][cell] for cell in words[name]} for name in words}


def need_stand(arrays, named, stand):
    """None; refuses of anything what is no STAND of ARRAYS, by a dict of sizes."""
    if not is_row(stand, len(arrays), len(arrays)):
        raise BadGiven(None)
    for number, (name, _, dims) in enumerate(arrays):
        pair = stand[number]
        many = multiplied(counts_at(dims, named))
        if not is_row(pair, 2, 2) or not is_same(pair[0], name) or not are_words(pair[1], many):
            raise BadGiven(number)


def run_lanes(sizes, arrays, kernel, at, stand, *, schedule=(), most=MOST_TURNS):
    """A tuple of the end, the STAND behind it and the EVENTS."""
    lanes = Lanes(sizes, arrays, kernel, at, stand, most=most)
    lanes.run(schedule)
    return lanes.end(), lanes.far(), lanes.events()
