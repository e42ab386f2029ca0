"""Stories gone through one by one, straight from the document, and values of wrong kinds."""

import unittest
from itertools import product

from wrongclock.errors import TooMany
from wrongclock.gaps import bits

DAY = (4, 1, 3, 1, 2, (-1, 1), 6)
CALM = (4, 1, 3, 1, 2, (), 1)
RARE = (4, 1, 1, 1, 2, (), 1)

# What is no almanac, no hour, no story and no readings.
ODD_VALUES = (None, True, False, -1, "", "almanac", (), [], {}, (True,), (None,), ("0",), [0], {0: 0}, ((0,),), (1.5,))


class Case(unittest.TestCase):
    def too_many(self, function, *arguments):
        with self.assertRaises(TooMany) as caught:
            function(*arguments)
        return caught.exception.most


def sets_up_to(almanac, end, allowed_from=1):
    """All sets of stories whose last waking is at this hour."""
    settings, rest = almanac[5], almanac[6]
    found = [()]
    for hour in range(allowed_from, end + 1):
        for setting in settings:
            for more in sets_up_to(almanac, end, hour + rest):
                found.append(((hour, setting),) + more)
    return found


def stories(almanac, many):
    """All stories with so many wakings."""
    soon, late = almanac[3], almanac[4]
    found = []
    for gaps in product(range(soon, late + 1), repeat=many - 1):
        wakings = tuple(sum(gaps[:at]) for at in range(many))
        for sets in sets_up_to(almanac, wakings[-1]):
            found.append((wakings, sets))
    return found


def shown(almanac, story):
    """What the clock shows at the wakings of a story."""
    return tuple(
        (waking + sum(setting for hour, setting in story[1] if hour <= waking)) % almanac[0] for waking in story[0]
    )


def told_by(almanac, sign, story, at):
    """What a sign tells at the waking of a story with this number, from 0."""
    wakings, sets = story
    kind, *numbers = sign
    behind = range(wakings[at - 1] + 1, wakings[at] + 1) if at > 0 else range(0)
    if kind == "sun":
        return 1 if wakings[at] % almanac[0] in range(numbers[0], numbers[1] + 1) else 0
    if kind == "second":
        return wakings[at] % numbers[0]
    if kind == "bell":
        return 1 if numbers[0] in [hour % almanac[0] for hour in behind] else 0
    return len([hour for hour, _ in sets if hour in behind])


def seen(almanac, signs, story):
    """What the keeper sees at the wakings of a story: the clock's reading, then what each sign tells."""
    return tuple(
        (reading,) + tuple(told_by(almanac, sign, story, at) for sign in signs)
        for at, reading in enumerate(shown(almanac, story))
    )


def by_sight(almanac, signs, many):
    """All stories with so many wakings, by what the keeper sees."""
    found = {}
    for story in stories(almanac, many):
        found.setdefault(seen(almanac, signs, story), []).append(story)
    return found


def by_readings(almanac, many):
    """All stories with so many wakings, by their readings."""
    return {tuple(reading for reading, in sight): alike for sight, alike in by_sight(almanac, (), many).items()}


def shut_by_count(almanac, hour):
    return len([day for day in range(hour + 1) if day * almanac[0] + almanac[2] < hour])


def opened_by_count(almanac, hour):
    return len([day for day in range(hour + 1) if day * almanac[0] + almanac[1] <= hour])


def urgent_by_count(almanac, hour):
    return shut_by_count(almanac, hour + almanac[4])


def is_clash(almanac, one, other):
    return urgent_by_count(almanac, one[0][-1]) > opened_by_count(almanac, other[0][-1])


def place_of(almanac, one, other):
    """The place of two stories."""
    hours, rest = almanac[0], almanac[6]
    errors = [sum(setting for _, setting in story[1]) % hours for story in (one, other)]
    waits = [max([1] + [hour + rest - story[0][-1] for hour, _ in story[1]]) for story in (one, other)]
    return (one[0][-1] % hours, one[0][-1] - other[0][-1], *errors, *waits)


def states_of(almanac, alike):
    """One story for each hour, error and wait among stories with the same readings."""
    return {(story[0][-1], place_of(almanac, story, story)): story for story in alike}.values()


def shortest_clash(almanac, most):
    """The fewest wakings of a conflict, up to most, else None."""
    for many in range(1, most + 1):
        for alike in by_readings(almanac, many).values():
            ends = states_of(almanac, alike)
            if any(is_clash(almanac, one, other) for one in ends for other in ends):
                return many
    return None


def places_up_to(almanac, most):
    """The places of all pairs of stories with the same readings and up to so many wakings."""
    groups = [alike for many in range(1, most + 1) for alike in by_readings(almanac, many).values()]
    return places_met(almanac, groups, almanac[0])


def places_met(almanac, groups, period):
    """The places of the pairs of stories in each of the groups, with the hour told modulo a period."""
    ends = [states_of(almanac, alike) for alike in groups]
    return {
        (one[0][-1] % period,) + place_of(almanac, one, other)[1:]
        for stories_met in ends for one in stories_met for other in stories_met
    }


def places_walked(walk, many):
    """The places that a whole walk finds with up to so many wakings."""
    hours, rest = walk.almanac[0], walk.almanac[6]
    return {
        (hour, ahead, error, (error + ahead) % hours, pair // rest + 1, pair % rest + 1)
        for level in walk.levels(None)[:many] for (hour, ahead, error), pairs in level.items() for pair in bits(pairs)
    }


def small_almanacs():
    """Almanacs of all kinds, few enough to go through their stories."""
    return [
        (hours, first, first + long, soon, soon + more, settings, rest)
        for hours, settings in ((2, (-1,)), (3, (1,)), (4, ()), (4, (-1, 1)), (5, (-2, 3)))
        for first in (0, hours - 1)
        for long in (0, hours - 2, hours - 1)
        for soon, more in ((1, 0), (1, 1), (2, 1), (3, 0))
        for rest in (1, 4)
    ]


def first_wrong_waking(almanac, table, story):
    """The number of the first waking, from 1, at which a keeper with a table fails, else None."""
    hours, first, last = almanac[:3]
    state, done = 0, 0
    for many, (hour, reading) in enumerate(zip(story[0], shown(almanac, story)), start=1):
        if table[state][reading] is None:
            return many
        state, deeds = table[state][reading]
        inside = [day * hours + first <= hour <= day * hours + last for day in range(done, done + deeds)]
        done += deeds
        if not all(inside) or urgent_by_count(almanac, hour) > done:
            return many
    return None


def thumb_goes_wrong(almanac, thumb, story):
    """The number of the first waking at which a keeper with a thumb fails, else None."""
    hours, first, last = almanac[:3]
    done, before = 0, False
    for many, (hour, reading) in enumerate(zip(story[0], shown(almanac, story)), start=1):
        if reading in thumb and not before:
            if not done * hours + first <= hour <= done * hours + last:
                return many
            done += 1
        before = reading in thumb
        if urgent_by_count(almanac, hour) > done:
            return many
    return None


def fewest_until_wrong(almanac, most, wrong_at):
    """The fewest wakings, up to most, of a story at whose last one it goes wrong, with all such stories."""
    for many in range(1, most + 1):
        bad = [story for story in stories(almanac, many) if wrong_at(story) is not None]
        if bad:
            return many, bad
    return None, []
