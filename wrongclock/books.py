"""Books of deeds that come back each so many days, and what a keeper's log tells of his deeds."""

from wrongclock.checks import check_almanac, check_hour, is_tuple_of, is_within
from wrongclock.days import urgent_at
from wrongclock.errors import BadBook
from wrongclock.gaps import bits
from wrongclock.logs import check_log, harms_of
from wrongclock.pairs import MOST_PLACES
from wrongclock.rules import greatest_urgent, waits_at_wakings
from wrongclock.scenes import deeds_of, entry_scene
from wrongclock.searches import Search

MOST_ENTRIES = 4
MOST_EVERY = 4


def due(almanac, book, hour):
    """Return the tuple of how many deeds of each entry are urgent at an hour."""
    check_almanac(almanac)
    check_book(almanac, book)
    check_hour(hour)
    return tuple([urgent_at(deeds_of(almanac, entry), hour) for entry in book])


def book_conflict(almanac, book):
    """Return (index, conflict) of the entry with the shortest conflict, None if there is none."""
    check_almanac(almanac)
    check_book(almanac, book)
    searches = [Search(entry_scene(almanac, entry), MOST_PLACES) for entry in book]
    for search in searches:
        search.check_places()
    for search in searches:
        search.check_wakings()
    found = [(search.wakings(), index) for index, search in enumerate(searches) if search.found()]
    if not found:
        return None
    _, index = min(found)
    return (index, searches[index].stories())


def book_rule(almanac, book, readings):
    """Return the tuple of how many deeds of each entry the rule has done by the last of these readings."""
    check_almanac(almanac)
    check_book(almanac, book)
    wakings = waits_at_wakings(almanac, readings)
    return tuple([greatest_urgent(deeds_of(almanac, entry), wakings) for entry in book])


def judged(almanac, log):
    """Return whether all deeds may have been done right, whether they must have been, and those surely not."""
    check_almanac(almanac)
    check_log(almanac, log)
    harms = harms_of(almanac, log)
    harmed = -1
    for harm in harms:
        harmed = harmed & harm
    return (0 in harms, not any(harms), tuple(bits(harmed)))


def check_book(almanac, value):
    """Raise BadBook for what is no book for the almanac."""
    if not isinstance(value, tuple) or not 1 <= len(value) <= MOST_ENTRIES:
        raise BadBook(None)
    for index, entry in enumerate(value):
        if not is_book_entry(almanac, entry):
            raise BadBook(index)


def is_book_entry(almanac, value):
    """Tell whether a value is an entry of a book for the almanac."""
    if not is_tuple_of(value, 4):
        return False
    hours = almanac[0]
    first, last, every, start = value
    if not is_within(first, 0, hours - 1) or not is_within(last, first, first + hours - 1):
        return False
    return is_within(every, 1, MOST_EVERY) and is_within(start, 0, every - 1)
