"""Signs that the keeper sees besides the clock, and which of them help him."""

from itertools import combinations

from wrongclock.checks import check_almanac, check_story
from wrongclock.scenes import signed_scene
from wrongclock.searches import Search, search_within_limits
from wrongclock.sights import check_signs, seen_in


def signed_readings(almanac, signs, story):
    """Return for each waking of a story what the keeper sees: the clock's reading, then what each sign tells."""
    check_almanac(almanac)
    check_signs(almanac, signs)
    check_story(almanac, story)
    return seen_in(almanac, signs, story)


def signed_conflict(almanac, signs):
    """Return a conflict of stories seen alike with as few wakings as can be, None if there is none."""
    check_almanac(almanac)
    check_signs(almanac, signs)
    return search_within_limits(signed_scene(almanac, signs)).stories()


def shows_signed_conflict(almanac, signs, value):
    """Tell whether a value is what signed_conflict(almanac, signs) may return."""
    check_almanac(almanac)
    check_signs(almanac, signs)
    return search_within_limits(signed_scene(almanac, signs)).shows(value)


def helping_lots(almanac, signs):
    """Return the ascending tuple of the lots of signs with which there is no conflict, but one with each part of them.

    Where a lot helps, no lot with more signs is gone through: it cannot be one of these.
    """
    check_almanac(almanac)
    check_signs(almanac, signs)
    searches = []
    helping = []
    for many in range(len(signs) + 1):
        for lot in combinations(range(len(signs)), many):
            if any(is_part(part, lot) for part in helping):
                continue
            search = Search(signed_scene(almanac, tuple([signs[number] for number in lot])), None)
            searches.append(search)
            if not search.found():
                helping.append(lot)
    for search in searches:
        search.check_wakings()
    for search in searches:
        search.check_places()
    return tuple(sorted(helping))


def is_part(part, lot):
    """Tell whether all of a part is in a lot."""
    return all(number in lot for number in part)
