"""What can be done to the clock from one waking to the next.

A wait is the number of hours until the clock may be set again, the least that is 1 or more.
Waits are kept as the bits of an integer: wait 1 is the lowest bit, wait 2 the next one.
A change is by how much the error got greater, modulo hours.
A step is what happens from one waking to the next: (gap, change, wait before, wait after).
"""


def bits(mask):
    """Return the places of the bits in a mask, ascending, the lowest one being 0."""
    places = []
    while mask:
        low = mask & -mask
        places.append(low.bit_length() - 1)
        mask = mask - low
    return places


def hour_later(almanac, changes):
    """Return the waits of each change an hour later, for a dict of the waits of each change."""
    hours, settings, rest = almanac[0], almanac[5], almanac[6]
    later = {}
    for change, waits in changes.items():
        later[change] = later.get(change, 0) | (waits >> 1) | (waits & 1)
        if waits & 1:
            for setting in settings:
                turned = (change + setting) % hours
                later[turned] = later.get(turned, 0) | (1 << (rest - 1))
    return later


def gap_table(almanac):
    """Return a dict of (gap, change): for each wait from 1 on, the waits that the gap with this change leads to."""
    soon, late, rest = almanac[3], almanac[4], almanac[6]
    table = {}
    for wait in range(1, rest + 1):
        changes = {0: 1 << (wait - 1)}
        for gap in range(1, late + 1):
            changes = hour_later(almanac, changes)
            if gap < soon:
                continue
            for change, waits in changes.items():
                row = table.setdefault((gap, change), [0] * rest)
                row[wait - 1] = waits
    return table


def sets_within(almanac, gap, change, wait, wait_after):
    """Return the settings that make a gap's change and lead from wait to wait_after: pairs (hour of the gap, setting).

    There must be such settings.
    """
    hours, settings, rest = almanac[0], almanac[5], almanac[6]
    ways = {(0, wait): ()}
    for hour in range(1, gap + 1):
        later = {}
        for (turned, left), sets in ways.items():
            later.setdefault((turned, max(1, left - 1)), sets)
            if left == 1:
                for setting in settings:
                    later.setdefault(((turned + setting) % hours, rest), sets + ((hour, setting),))
        ways = later
    return ways[(change, wait_after)]


def story_of(almanac, steps):
    """Return a story that goes some steps."""
    wakings = [0]
    sets = []
    for gap, change, wait, wait_after in steps:
        for hour, setting in sets_within(almanac, gap, change, wait, wait_after):
            sets.append((wakings[-1] + hour, setting))
        wakings.append(wakings[-1] + gap)
    return (tuple(wakings), tuple(sets))
