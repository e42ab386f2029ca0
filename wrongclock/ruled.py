"""The table of the keeper that does what the rule does.

What may be behind a waking is told as (reading, pairs of hour and waits), the hours less hours times the
deeds done, ascending; the errors follow from the reading and the hours.
"""

from wrongclock.days import urgent_at
from wrongclock.errors import TooMany
from wrongclock.gaps import gap_table
from wrongclock.rules import waits_one_more
from wrongclock.tables import MOST_STATES

NOT_WOKEN_YET = (None, ())


def rule_table(almanac):
    """Return the table that does what the rule does; some keeper must be right."""
    table = gap_table(almanac)
    states = [NOT_WOKEN_YET]
    numbers = {NOT_WOKEN_YET: 0}
    rows = []
    while len(rows) < len(states):
        row = []
        for found in wakings_behind(almanac, table, states[len(rows)]):
            if found is None:
                row.append(None)
                continue
            state, deeds = found
            if state not in numbers:
                numbers[state] = len(states)
                states.append(state)
            row.append((numbers[state], deeds))
        if len(states) > MOST_STATES:
            raise TooMany(MOST_STATES)
        rows.append(tuple(row))
    return tuple(rows)


def wakings_behind(almanac, table, state):
    """Return for each next reading what may be then and how many deeds the rule does now, None if no story has it."""
    before, hours_before = state
    found = []
    for reading in range(almanac[0]):
        if before is None:
            waits = {0: 1} if reading == 0 else {}
        else:
            waits = waits_one_more(almanac, table, dict(hours_before), reading - before)
        found.append(done_by_rule(almanac, reading, waits) if waits else None)
    return found


def done_by_rule(almanac, reading, waits):
    """Return what may be behind a waking and how many deeds the rule does at it, for the waits of each hour."""
    deeds = urgent_at(almanac, max(waits))
    hours_less = sorted([(hour - almanac[0] * deeds, mask) for hour, mask in waits.items()])
    return ((reading, tuple(hours_less)), deeds)
