"""Almanacs and stories: the clock's readings, and the windows of the deeds."""

from wrongclock.checks import check_almanac, check_hour, check_story
from wrongclock.days import opened_by, shown_in, shut_before, urgent_at


def readings(almanac, story):
    """Return the tuple of what the clock shows at the wakings of a story."""
    check_almanac(almanac)
    check_story(almanac, story)
    return shown_in(almanac, story)


def shut(almanac, hour):
    """Return how many deeds have their windows wholly before an hour."""
    check_almanac(almanac)
    check_hour(hour)
    return shut_before(almanac, hour)


def opened(almanac, hour):
    """Return how many deeds have their windows begun by an hour."""
    check_almanac(almanac)
    check_hour(hour)
    return opened_by(almanac, hour)


def urgent(almanac, hour):
    """Return how many deeds must be done at a waking at an hour, as the next waking may come behind their windows."""
    check_almanac(almanac)
    check_hour(hour)
    return urgent_at(almanac, hour)
