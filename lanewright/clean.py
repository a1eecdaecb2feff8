"""EVENTS that CLASH."""

# In the place of the one group or lane that came to a cell: that there were more.
MANY = "many"


def near_names(kernel):
    """A list of the NAMES of a KERNEL's near arrays."""
    return [near[0] for near in kernel[2]]


def place_of(near, event):
    """Where an EVENT comes to: its array, the group of a near one, and its CELL."""
    who, name, cell = event[0], event[4], event[5]
    return name, who[0] if name in near else None, cell


def do_clash(near, one, other):
    """Whether two EVENTS CLASH."""
    if one[0] == other[0] or place_of(near, one) != place_of(near, other) or "store" not in (one[3], other[3]):
        return False
    return one[0][0] != other[0][0] or one[1] == other[1]


def clash_of(kernel, events):
    """A pair of the first EVENT that CLASHES with one ahead, behind the first such; None without one."""
    near = near_names(kernel)
    # The one group that came to a cell, and the one lane of a group that did in an INTERVAL.
    groups = {}
    lanes = {}
    for number, event in enumerate(events):
        who, interval, kind = event[0], event[1], event[3]
        place = place_of(near, event)
        # A load CLASHES with stores alone.
        key = (place, "any" if kind == "store" else "store")
        if groups.get(key, who[0]) != who[0] or lanes.get((key, who[0], interval), who) != who:
            return first_clash(near, events, number)
        for seen in ("any", kind):
            note_one(groups, (place, seen), who[0])
            note_one(lanes, ((place, seen), who[0], interval), who)
    return None


def note_one(seen, key, who):
    """Notes who came, or that there were more."""
    if seen.setdefault(key, who) != who:
        seen[key] = MANY


def first_clash(near, events, number):
    """A pair of the first EVENT that CLASHES with that of a number, and that one."""
    for event in events:
        if do_clash(near, event, events[number]):
            return event, events[number]
    return None
