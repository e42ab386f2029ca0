"""Stories with few settings in which a keeper fails, and right tables with few states."""

from wrongclock.cheap import CheapRun
from wrongclock.checks import check_almanac, check_number, is_story
from wrongclock.clocks import Clocks
from wrongclock.errors import TooMany
from wrongclock.fitting import right_table
from wrongclock.tables import check_table, goes_wrong

MOST_STATES = 2
MOST_HOURS = 4


def cheapest_bad(almanac, table):
    """Return a story with few settings, and then few wakings, at whose last waking a keeper fails, or None."""
    return search_for(almanac, table).story()


def shows_cheapest_bad(almanac, table, value):
    """Tell whether a value is what cheapest_bad(almanac, table) may return."""
    search = search_for(almanac, table)
    if not search.fails():
        return value is None
    if not is_story(almanac, value):
        return False
    wakings, sets = value
    # A story of this cost in which he fails doesn't go on behind that, for the part up to it would be cheaper.
    return (len(sets), len(wakings)) == search.cost and goes_wrong(almanac, table, value)


def search_for(almanac, table):
    """Return the search for the cheapest story in which a keeper with a table fails."""
    check_almanac(almanac)
    check_table(almanac, table)
    search = CheapRun(almanac, table)
    search.check_limits()
    return search


def smallest(almanac, most):
    """Return a right table with as few states as can be, at most so many, None if there is none."""
    check_almanac(almanac)
    check_number(most, MOST_STATES)
    if almanac[0] > MOST_HOURS:
        raise TooMany(MOST_HOURS)
    clocks = Clocks(almanac)
    for many in range(1, most + 1):
        table = right_table(almanac, many, clocks)
        if table is not None:
            return table
    return None


def fewest_states(almanac, most):
    """Return how many states the table has that smallest(almanac, most) returns, None if there is none."""
    table = smallest(almanac, most)
    return None if table is None else len(table)
