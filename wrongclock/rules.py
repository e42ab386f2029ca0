"""The one rule: wait until in some possible history the window is about to shut."""

from wrongclock.checks import check_almanac, check_readings
from wrongclock.days import urgent_at
from wrongclock.errors import BadReadings
from wrongclock.gaps import bits, gap_table


def rule(almanac, readings):
    """Return how many deeds the rule has done in all by the last of these readings."""
    check_almanac(almanac)
    return greatest_urgent(almanac, waits_at_wakings(almanac, readings))


def may_be(almanac, readings):
    """Return the ascending tuple of the hours at which the last waking can be."""
    check_almanac(almanac)
    return tuple(sorted(waits_at_wakings(almanac, readings)[-1]))


def greatest_urgent(almanac, wakings):
    """Return the greatest number of deeds urgent at the hours at which each of the wakings can be."""
    return max([urgent_at(almanac, max(waits)) for waits in wakings])


def waits_at_wakings(almanac, readings):
    """Return for each waking a dict: for each hour at which it can be, the waits there.

    They are those of all stories with the readings up to this one, whether they can go on as the later ones do or not.
    """
    check_readings(almanac, readings)
    if readings[0] != 0:
        raise BadReadings()
    table = gap_table(almanac)
    wakings = [{0: 1}]
    for before, reading in zip(readings, readings[1:]):
        waits = waits_one_more(almanac, table, wakings[-1], reading - before)
        if not waits:
            raise BadReadings()
        wakings.append(waits)
    return wakings


def waits_one_more(almanac, table, waits_before, turn):
    """Return the hours and waits a waking later, where the clock has gone on by turn, modulo hours."""
    hours, soon, late = almanac[0], almanac[3], almanac[4]
    carried = {}
    later = {}
    for hour, waits in waits_before.items():
        for gap in range(soon, late + 1):
            if (gap, waits) not in carried:
                carried[gap, waits] = waits_carried(table.get((gap, (turn - gap) % hours)), waits)
            if carried[gap, waits]:
                later[hour + gap] = later.get(hour + gap, 0) | carried[gap, waits]
    return later


def waits_carried(row, waits):
    """Return the waits to which a row of the gap table leads from some waits; the row may be None."""
    carried = 0
    if row is not None:
        for at in bits(waits):
            carried = carried | row[at]
    return carried
