"""What may have been done wrongly, as far as a keeper's log tells.

Deeds that were harmed are kept as the bits of an integer, deed 0 being the lowest one.
"""

from wrongclock.checks import MOST_WAKINGS, is_tuple_of, is_within
from wrongclock.days import opened_by, shut_before
from wrongclock.errors import BadReadings, TooMany
from wrongclock.gaps import gap_table
from wrongclock.pairs import MOST_PLACES, count_places
from wrongclock.rules import waits_one_more
from wrongclock.tables import MOST_DEEDS


def check_log(almanac, value):
    """Raise BadReadings for what has not the form of a log, whether a story has its readings or not."""
    if not isinstance(value, tuple) or not 1 <= len(value) <= MOST_WAKINGS:
        raise BadReadings()
    if not all(is_tuple_of(pair, 2) for pair in value):
        raise BadReadings()
    last_reading = almanac[0] - 1
    if not all(is_within(pair[0], 0, last_reading) and is_within(pair[1], 0, MOST_DEEDS) for pair in value):
        raise BadReadings()


def harms_of(almanac, log):
    """Return for each story with the readings of a log the deeds that were harmed by its last waking."""
    if log[0][0] != 0:
        raise BadReadings()
    table = gap_table(almanac)
    done = log[0][1]
    # For each of the deeds done wrongly so far, the waits of each hour.
    level = {wrongly_done(almanac, 0, 0, done): {0: 1}}
    for before, entry in zip(log, log[1:]):
        turn, deeds = entry[0] - before[0], entry[1]
        later = {}
        for wrong, waits_before in level.items():
            for hour, waits in waits_one_more(almanac, table, waits_before, turn).items():
                hours_later = later.setdefault(wrong | wrongly_done(almanac, hour, done, deeds), {})
                hours_later[hour] = hours_later.get(hour, 0) | waits
        level = later
        done += deeds
        if sum([count_places(hours_met) for hours_met in level.values()]) > MOST_PLACES:
            raise TooMany(MOST_PLACES)
        if not level:
            raise BadReadings()
    return [wrong | missed(almanac, hour, done) for wrong, hours_met in level.items() for hour in hours_met]


def wrongly_done(almanac, hour, done, deeds):
    """Return which are done outside their windows of so many deeds, done at an hour behind those done before."""
    rightly = range(shut_before(almanac, hour), opened_by(almanac, hour))
    return sum([1 << deed for deed in range(done, done + deeds) if deed not in rightly])


def missed(almanac, hour, done):
    """Return the deeds whose windows are over at an hour, without those done by then."""
    return sum([1 << deed for deed in range(done, shut_before(almanac, hour))])
