"""What can be done to the clock from one waking to the next.

A wait is the number of hours until the clock may be set again, the least that is 1 or more.
Waits are kept as the bits of an integer: wait 1 is the lowest bit, wait 2 the next one.
A change is by how much the error got greater, modulo hours; times is how often the clock was set, None where
this doesn't matter.
A step is what happens from one waking to the next: (gap, change, times, wait before, wait after).
"""


def bits(mask):
    """Return the places of the bits in a mask, ascending, the lowest one being 0."""
    places = []
    while mask:
        low = mask & -mask
        places.append(low.bit_length() - 1)
        mask = mask - low
    return places


def hour_later(almanac, changes):
    """Return the waits of each (change, times) an hour later, for a dict of the waits of each."""
    hours, settings, rest = almanac[0], almanac[5], almanac[6]
    later = {}
    for (change, times), waits in changes.items():
        later[change, times] = later.get((change, times), 0) | (waits >> 1) | (waits & 1)
        if waits & 1:
            more_times = None if times is None else times + 1
            for setting in settings:
                turned = ((change + setting) % hours, more_times)
                later[turned] = later.get(turned, 0) | (1 << (rest - 1))
    return later


def step_table(almanac, times):
    """Return a dict of (gap, change, times): for each wait from 1 on, the waits to which the gap leads so.

    How often the clock is set is counted from times on, not at all for None.
    """
    soon, late, rest = almanac[3], almanac[4], almanac[6]
    table = {}
    for wait in range(1, rest + 1):
        changes = {(0, times): 1 << (wait - 1)}
        for gap in range(1, late + 1):
            changes = hour_later(almanac, changes)
            if gap < soon:
                continue
            for (change, more_times), waits in changes.items():
                row = table.setdefault((gap, change, more_times), [0] * rest)
                row[wait - 1] = waits
    return table


def gap_table(almanac):
    """Return a dict of (gap, change): for each wait from 1 on, the waits that the gap with this change leads to."""
    return {(gap, change): row for (gap, change, _), row in step_table(almanac, None).items()}


def sets_within(almanac, step):
    """Return the settings of a step: pairs (hour of the gap, setting); there must be such settings."""
    gap, change, times, wait, wait_after = step
    ways = {(0, 0, wait): ()}
    for hour in range(1, gap + 1):
        ways = ways_later(almanac, ways, hour)
    if times is None:
        times = min([count for turned, count, left in ways if (turned, left) == (change, wait_after)])
    return ways[change, times, wait_after]


def ways_later(almanac, ways, hour):
    """Return settings that lead to each (change, times, wait) an hour later, at which they may be set."""
    hours, settings, rest = almanac[0], almanac[5], almanac[6]
    later = {}
    for (change, times, wait), sets in ways.items():
        later.setdefault((change, times, max(1, wait - 1)), sets)
        if wait == 1:
            for setting in settings:
                later.setdefault(((change + setting) % hours, times + 1, rest), sets + ((hour, setting),))
    return later


def story_of(almanac, steps):
    """Return a story that goes some steps."""
    wakings = [0]
    sets = []
    for step in steps:
        for hour, setting in sets_within(almanac, step):
            sets.append((wakings[-1] + hour, setting))
        wakings.append(wakings[-1] + step[0])
    return (tuple(wakings), tuple(sets))
