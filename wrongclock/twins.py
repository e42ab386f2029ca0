"""Twin stories: whether two histories with the same readings need unlike deeds."""

from wrongclock.checks import ascends, check_almanac, is_integer, is_tuple_of, is_within
from wrongclock.gaps import bits
from wrongclock.pairs import MOST_PLACES, Walk, clashes
from wrongclock.scenes import plain_scene
from wrongclock.searches import Search, search_within_limits


def conflict(almanac):
    """Return a conflict with as few wakings as can be, None if there is none."""
    check_almanac(almanac)
    return search_within_limits(plain_scene(almanac)).stories()


def shows_conflict(almanac, value):
    """Tell whether a value is what conflict(almanac) may return."""
    check_almanac(almanac)
    return search_within_limits(plain_scene(almanac)).shows(value)


def has_keeper(almanac):
    """Return whether there is no conflict."""
    check_almanac(almanac)
    search = Search(plain_scene(almanac), None)
    search.check_places()
    return not search.found()


def places(almanac):
    """Return the ascending tuple of the places of all pairs of stories, None if there is a conflict."""
    check_almanac(almanac)
    hours, rest = almanac[0], almanac[6]
    walk = Walk(plain_scene(almanac), True)
    levels = walk.levels(MOST_PLACES)
    if walk.clash_in(levels[-1]) is not None:
        return None
    return tuple(sorted([
        written_place(ground, pair, hours, rest)
        for level in levels for ground, pairs in level.items() for pair in bits(pairs)
    ]))


def shows_places(almanac, value):
    """Tell whether a value is a tuple of places that shows that there is no conflict."""
    check_almanac(almanac)
    if not isinstance(value, tuple) or len(value) > MOST_PLACES:
        return False
    if not all(is_like_place(almanac, place) for place in value) or not ascends(value):
        return False
    if (0, 0, 0, 0, 1, 1) not in value:
        return False
    if any(clashes(almanac, place[0], place[1]) for place in value):
        return False
    return is_closed(almanac, value)


def written_place(ground, pair, hours, rest):
    """Return the six integers of a place."""
    hour, ahead, error = ground
    at, other_at = divmod(pair, rest)
    return (hour, ahead, error, (error + ahead) % hours, at + 1, other_at + 1)


def is_like_place(almanac, value):
    """Tell whether a value has the form of a place, whether stories lead there or not."""
    hours, rest = almanac[0], almanac[6]
    if not is_tuple_of(value, 6) or not is_integer(value[1]):
        return False
    hour, ahead, error, other_error, wait, other_wait = value
    if not all(is_within(clock, 0, hours - 1) for clock in (hour, error, other_error)):
        return False
    if not is_within(wait, 1, rest) or not is_within(other_wait, 1, rest):
        return False
    return (ahead + error - other_error) % hours == 0


def is_closed(almanac, value):
    """Tell whether a tuple of places has with each place all those to which a waking more leads."""
    rest = almanac[6]
    walk = Walk(plain_scene(almanac), True)
    masks = {}
    for hour, ahead, error, _, wait, other_wait in value:
        ground = (hour, ahead, error)
        masks[ground] = masks.get(ground, 0) | (1 << ((wait - 1) * rest + other_wait - 1))
    for ground, pairs in masks.items():
        for pair in bits(pairs):
            if any(mask & ~masks.get(goal, 0) for goal, mask in walk.reached_from(ground, pair)):
                return False
    return True
