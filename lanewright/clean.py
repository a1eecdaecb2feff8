"""EVENTS that CLASH, and papers that show that none do."""

from lanewright.errors import BadPaper
from lanewright.parts import are_alike, is_one_of, is_row
from lanewright.words import is_name, is_number

# In the place of the one group or lane that came to a cell: that there were more.
MANY = "many"
# In a paper, in the place of a lane: that whoever comes only loads.
ANYBODY = "all"
ROW_PARTS = 5
MOST_SPOTS = 2


def near_names(kernel):
    """A list of the NAMES of a KERNEL's near arrays."""
    return [near[0] for near in kernel[2]]


def place_of(near, event):
    """Where an EVENT comes to: its array, the group of a near one, and its CELL."""
    who, name, cell = event[0], event[4], event[5]
    return name, who[0] if name in near else None, cell


def do_clash(near, one, other):
    """Whether two EVENTS CLASH."""
    if one[0] == other[0] or place_of(near, one) != place_of(near, other) or "store" not in (one[3], other[3]):
        return False
    return one[0][0] != other[0][0] or one[1] == other[1]


def clash_of(kernel, events):
    """A pair of the first EVENT that CLASHES with one ahead, behind the first such; None without one."""
    near = near_names(kernel)
    # The one group that came to a cell, and the one lane of a group that did in an INTERVAL.
    groups = {}
    lanes = {}
    for number, event in enumerate(events):
        who, interval, kind = event[0], event[1], event[3]
        place = place_of(near, event)
        # A load CLASHES with stores alone.
        key = (place, "any" if kind == "store" else "store")
        if groups.get(key, who[0]) != who[0] or lanes.get((key, who[0], interval), who) != who:
            return first_clash(near, events, number)
        for seen in ("any", kind):
            note_one(groups, (place, seen), who[0])
            note_one(lanes, ((place, seen), who[0], interval), who)
    return None


def note_one(seen, key, who):
    """Notes who came, or that there were more."""
    if seen.setdefault(key, who) != who:
        seen[key] = MANY


def first_clash(near, events, number):
    """A pair of the first EVENT that CLASHES with that of a number, and that one."""
    for event in events:
        if do_clash(near, event, events[number]):
            return event, events[number]
    return None


def is_clean(kernel, events):
    """Whether no two EVENTS CLASH."""
    return clash_of(kernel, events) is None


def clean_paper(kernel, events):
    """The PAPER with as few rows as can be that EVENTS are CLEAN; None of EVENTS that CLASH."""
    if not is_clean(kernel, events):
        return None
    near = near_names(kernel)
    by_place = {}
    for event in events:
        by_place.setdefault(place_of(near, event), []).append(event)
    rows = [row for place in by_place for row in rows_of_place(place, by_place[place])]
    return tuple(sorted(rows, key=rank_of))


def rows_of_place(place, events):
    """A list of the rows of a paper for one place, to which these EVENTS come."""
    name, group, cell = place
    if are_alike([one[0] for one in events]) or "store" not in [one[3] for one in events]:
        return [(name, group, None, cell, who_comes(events))]
    by_interval = {}
    for event in events:
        by_interval.setdefault(event[1], []).append(event)
    return [(name, group, interval, cell, who_comes(by_interval[interval])) for interval in by_interval]


def who_comes(events):
    """The lane of EVENTS, where they have but one."""
    return events[0][0] if are_alike([event[0] for event in events]) else ANYBODY


def rank_of(row):
    """That by which the rows of a paper rise."""
    name, group, interval, cell, _ = row
    return name, none_first(group), none_first(interval), cell


def none_first(thing):
    """A number that stands for a number from 0, or for None, which is ahead of these."""
    return -1 if thing is None else thing


def check_clean(kernel, events, paper):
    """None; refuses of anything what is no PAPER that EVENTS are CLEAN."""
    near = near_names(kernel)
    if not are_paper_rows(near, paper):
        raise BadPaper(None)
    by_place = {}
    for name, group, interval, cell, who in paper:
        told = by_place.setdefault((name, group, cell), {})
        told[interval] = who
    groups = {}
    for event in events:
        note_one(groups, place_of(near, event), event[0][0])
    for number, event in enumerate(events):
        place = place_of(near, event)
        if not does_fit(event, by_place.get(place, {}), groups[place] == MANY):
            raise BadPaper(("event", number))


def are_paper_rows(near, thing):
    """Whether anything is a rising tuple of rows of a paper."""
    if not isinstance(thing, tuple) or not all([is_paper_row(near, row) for row in thing]):
        return False
    ranks = [rank_of(row) for row in thing]
    return all([one < other for one, other in zip(ranks, ranks[1:])])


def is_paper_row(near, thing):
    """Whether anything is a row of a paper."""
    if not is_row(thing, ROW_PARTS, ROW_PARTS):
        return False
    name, group, interval, cell, who = thing
    if not is_name(name):
        return False
    # Whatever isn't near is in no group.
    if not (is_from_zero(group) if name in near else group is None):
        return False
    if interval is not None and not is_from_zero(interval):
        return False
    return are_from_zero(cell, 1, MOST_SPOTS) and (is_one_of(who, (ANYBODY,)) or are_from_zero(who, 2, 2))


def is_from_zero(thing):
    """Whether anything is a whole number from 0."""
    return is_number(thing) and thing >= 0


def are_from_zero(thing, least, most):
    """Whether anything is a tuple of least to most whole numbers from 0."""
    return is_row(thing, least, most) and all([is_from_zero(part) for part in thing])


def does_fit(event, told, shared):
    """Whether an EVENT FITS what is told of its place, a dict from INTERVALS to WHO.

    Shared says whether lanes of unlike groups come there.
    """
    found = [interval for interval in (event[1], None) if interval in told]
    if len(found) != 1 or (shared and found[0] is not None):
        return False
    who = told[found[0]]
    return who == event[0] or (who == ANYBODY and event[3] == "load")


def words_moved(kernel, events):
    """How many EVENTS are of far arrays."""
    near = near_names(kernel)
    return len([event for event in events if event[4] not in near])


def one_order(events, others):
    """Whether each lane has the same EVENTS in both, in its order."""
    return events_by_lane(events) == events_by_lane(others)


def events_by_lane(events):
    """A dict from lanes to lists of their EVENTS, in order."""
    found = {}
    for event in events:
        found.setdefault(event[0], []).append(event)
    return found
