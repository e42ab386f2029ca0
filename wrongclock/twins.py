"""Twin stories: whether two histories with the same readings need unlike deeds."""

from wrongclock.checks import MOST_WAKINGS, ascends, check_almanac, is_integer, is_story, is_tuple_of, is_within
from wrongclock.days import opened_by, shown_in, urgent_at
from wrongclock.errors import TooMany
from wrongclock.gaps import bits
from wrongclock.pairs import MOST_PLACES, Walk, clashes, count_places
from wrongclock.traces import Trace


def conflict(almanac):
    """Return a conflict with as few wakings as can be, None if there is none."""
    check_almanac(almanac)
    walk = Walk(almanac, 1)
    levels = walk.levels(None)
    ground = clash_within_limits(walk, levels)
    if ground is None:
        return None
    return Trace(walk).stories(levels, ground)


def shows_conflict(almanac, value):
    """Tell whether a value is what conflict(almanac) may return."""
    check_almanac(almanac)
    walk = Walk(almanac, 1)
    levels = walk.levels(None)
    if clash_within_limits(walk, levels) is None:
        return value is None
    return is_conflict(almanac, value) and len(value[0][0]) == len(levels)


def has_keeper(almanac):
    """Return whether there is no conflict."""
    check_almanac(almanac)
    walk = Walk(almanac, 1)
    levels = walk.levels(None)
    check_places_come(almanac, levels)
    return walk.clash_in(levels[-1]) is None


def places(almanac):
    """Return the ascending tuple of the places of all pairs of stories, None if there is a conflict."""
    check_almanac(almanac)
    hours, rest = almanac[0], almanac[6]
    walk = Walk(almanac, hours)
    levels = walk.levels(MOST_PLACES)
    if walk.clash_in(levels[-1]) is not None:
        return None
    return tuple(sorted([
        written_place(ground, pair, hours, rest)
        for level in levels for ground, pairs in level.items() for pair in bits(pairs)
    ]))


def shows_places(almanac, value):
    """Tell whether a value is a tuple of places that shows that there is no conflict."""
    check_almanac(almanac)
    if not isinstance(value, tuple) or len(value) > MOST_PLACES:
        return False
    if not all(is_like_place(almanac, place) for place in value) or not ascends(value):
        return False
    if (0, 0, 0, 0, 1, 1) not in value:
        return False
    if any(clashes(almanac, place[0], place[1]) for place in value):
        return False
    return is_closed(almanac, value)


def clash_within_limits(walk, levels):
    """Return the ground of the shortest conflict, None if there is none; raise TooMany as conflict does."""
    ground = walk.clash_in(levels[-1])
    if ground is not None and len(levels) > MOST_WAKINGS:
        raise TooMany(MOST_WAKINGS)
    check_places_come(walk.almanac, levels)
    return ground


def check_places_come(almanac, levels):
    """Raise TooMany if too many places come, told from the levels without errors."""
    hours = almanac[0]
    if hours * sum([count_places(level) for level in levels]) > MOST_PLACES:
        Walk(almanac, hours).levels(MOST_PLACES)


def is_conflict(almanac, value):
    """Tell whether a value is a conflict, of as many wakings as may be passed."""
    if not is_tuple_of(value, 2) or not all(is_story(almanac, story) for story in value):
        return False
    one, other = value
    if shown_in(almanac, one) != shown_in(almanac, other):
        return False
    return urgent_at(almanac, one[0][-1]) > opened_by(almanac, other[0][-1])


def written_place(ground, pair, hours, rest):
    """Return the six integers of a place."""
    hour, ahead, error = ground
    at, other_at = divmod(pair, rest)
    return (hour, ahead, error, (error + ahead) % hours, at + 1, other_at + 1)


def is_like_place(almanac, value):
    """Tell whether a value has the form of a place, whether stories lead there or not."""
    hours, rest = almanac[0], almanac[6]
    if not is_tuple_of(value, 6) or not is_integer(value[1]):
        return False
    hour, ahead, error, other_error, wait, other_wait = value
    if not all(is_within(clock, 0, hours - 1) for clock in (hour, error, other_error)):
        return False
    if not is_within(wait, 1, rest) or not is_within(other_wait, 1, rest):
        return False
    return (ahead + error - other_error) % hours == 0


def is_closed(almanac, value):
    """Tell whether a tuple of places has with each place all those to which a waking more leads."""
    rest = almanac[6]
    walk = Walk(almanac, almanac[0])
    masks = {}
    for hour, ahead, error, _, wait, other_wait in value:
        ground = (hour, ahead, error)
        masks[ground] = masks.get(ground, 0) | (1 << ((wait - 1) * rest + other_wait - 1))
    for ground, pairs in masks.items():
        for pair in bits(pairs):
            if any(mask & ~masks.get(goal, 0) for goal, mask in walk.reached_from(ground, pair)):
                return False
    return True
