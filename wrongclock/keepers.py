"""Keepers with tables, the keeper that waits as long as can be, and keepers with rules of thumb."""

from wrongclock.checks import MOST_LATE, MOST_REST, check_almanac, is_story
from wrongclock.clocks import Clocks
from wrongclock.errors import NoKeeper, TooMany
from wrongclock.gaps import bits
from wrongclock.ruled import rule_table
from wrongclock.runs import Run, failing_ground, levels_within_limits
from wrongclock.scenes import plain_scene
from wrongclock.searches import Search
from wrongclock.tables import check_table, check_thumb, goes_wrong, thumb_table
from wrongclock.twins import has_keeper

MOST_THUMBS = 255


def bad_story(almanac, table):
    """Return a story with as few wakings as can be at whose last waking a keeper fails, None if he is right."""
    check_almanac(almanac)
    check_table(almanac, table)
    return shortest_bad_story(almanac, table)


def shows_bad_story(almanac, table, value):
    """Tell whether a value is what bad_story(almanac, table) may return."""
    check_almanac(almanac)
    check_table(almanac, table)
    levels = levels_within_limits(Run(almanac, table, Clocks(almanac)))
    if failing_ground(levels[-1]) is None:
        return value is None
    if not is_story(almanac, value) or len(value[0]) != len(levels):
        return False
    return goes_wrong(almanac, table, value)


def shortest_bad_story(almanac, table):
    """Return what bad_story returns, for arguments that are known to be right."""
    run = Run(almanac, table, Clocks(almanac))
    levels = levels_within_limits(run)
    ground = failing_ground(levels[-1])
    if ground is None:
        return None
    return run.story(levels, ground)


def keeper(almanac):
    """Return the table that does what the rule does."""
    check_almanac(almanac)
    search = Search(plain_scene(almanac), None)
    if search.found():
        raise NoKeeper()
    search.check_places()
    return rule_table(almanac)


def greatest_late(almanac):
    """Return the greatest late with which some keeper is right, None if there is none."""
    check_almanac(almanac)
    soon = almanac[3]
    for late in range(MOST_LATE, soon - 1, -1):
        if has_keeper(almanac[:4] + (late,) + almanac[5:]):
            return late
    return None


def least_rest(almanac):
    """Return the least rest with which some keeper is right, None if there is none."""
    check_almanac(almanac)
    for rest in range(1, MOST_REST + 1):
        if has_keeper(almanac[:6] + (rest,)):
            return rest
    return None


def least_last(almanac):
    """Return the least last with which some keeper is right, None if there is none."""
    check_almanac(almanac)
    hours, first = almanac[0], almanac[1]
    for last in range(first, first + hours):
        if has_keeper(almanac[:2] + (last,) + almanac[3:]):
            return last
    return None


def thumb_fails(almanac, thumb):
    """Return a story with as few wakings as can be at whose last waking a keeper with a thumb fails, or None."""
    check_almanac(almanac)
    check_thumb(almanac, thumb)
    return shortest_bad_story(almanac, thumb_table(almanac, thumb))


def good_thumbs(almanac):
    """Return the ascending tuple of the thumbs that never fail."""
    check_almanac(almanac)
    many = (1 << almanac[0]) - 1
    if many > MOST_THUMBS:
        raise TooMany(MOST_THUMBS)
    clocks = Clocks(almanac)
    thumbs = [tuple(bits(readings)) for readings in range(1, many + 1)]
    return tuple(sorted([thumb for thumb in thumbs if never_fails(almanac, thumb, clocks)]))


def never_fails(almanac, thumb, clocks):
    """Tell whether a keeper with a thumb never fails."""
    levels = Run(almanac, thumb_table(almanac, thumb), clocks).levels()
    return failing_ground(levels[-1]) is None
