"""Tables of keepers: what is one, and when a keeper fails."""

from wrongclock.checks import ascends, is_tuple_of, is_within
from wrongclock.days import opened_by, shown_in, urgent_at
from wrongclock.errors import BadReadings, BadTable

MOST_STATES = 4000
MOST_DEEDS = 30


def check_table(almanac, value):
    """Raise BadTable for what is no table for the almanac."""
    if not isinstance(value, tuple) or not 1 <= len(value) <= MOST_STATES:
        raise BadTable(None)
    for index, state in enumerate(value):
        if not is_state(almanac, state, len(value)):
            raise BadTable(index)


def is_state(almanac, value, many):
    """Tell whether a value is a state of a table with so many of them."""
    if not is_tuple_of(value, almanac[0]):
        return False
    return all(entry is None or is_entry(entry, many) for entry in value)


def is_entry(value, many):
    """Tell whether a value is what a state has for an expected reading."""
    return is_tuple_of(value, 2) and is_within(value[0], 0, many - 1) and is_within(value[1], 0, MOST_DEEDS)


def check_thumb(almanac, value):
    """Raise BadReadings for what is no thumb."""
    hours = almanac[0]
    if not isinstance(value, tuple) or not value:
        raise BadReadings()
    if not all(is_within(reading, 0, hours - 1) for reading in value) or not ascends(value):
        raise BadReadings()


def thumb_table(almanac, thumb):
    """Return the table of the keeper with a thumb: in state 1 the clock showed one of it at the waking before."""
    fresh = tuple([(1, 1) if reading in thumb else (0, 0) for reading in range(almanac[0])])
    shown_before = tuple([(next_state, 0) for next_state, _ in fresh])
    return (fresh, shown_before)


def is_wrong(almanac, hour, deeds):
    """Tell whether it is wrong to do so many deeds at a waking.

    Its hour is told less hours for each deed done before, and nothing was wrong before: so no window is over
    without its deed, for that deed was urgent at the waking before.
    """
    return deeds > opened_by(almanac, hour) or urgent_at(almanac, hour) > deeds


def goes_wrong(almanac, table, story):
    """Tell whether a keeper with a table fails at a waking of a story."""
    hours = almanac[0]
    state = 0
    done = 0
    for hour, reading in zip(story[0], shown_in(almanac, story)):
        entry = table[state][reading]
        if entry is None or is_wrong(almanac, hour - hours * done, entry[1]):
            return True
        state = entry[0]
        done += entry[1]
    return False
