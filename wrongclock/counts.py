"""How many stories and readings there are, and how likely they are."""

from math import gcd

from wrongclock.checks import MOST_WAKINGS, check_almanac, check_number, check_readings, is_tuple_of, is_within
from wrongclock.errors import BadNumber, TooMany
from wrongclock.gaps import bits, gap_table
from wrongclock.tables import check_table, is_wrong
from wrongclock.weights import COUNTING, add_weight, gaps_weighed, whole_weight

MOST_SETS = 20000
MOST_BOTTOM = 1000
MOST_WATCHED = 12


def count_stories(almanac, wakings):
    """Return how many stories with so many wakings there are."""
    check_almanac(almanac)
    check_number(wakings, MOST_WAKINGS)
    weights = {(0, 0, 1): 1}
    for _ in range(wakings - 1):
        later = {}
        for _, found in gaps_weighed(almanac, weights, COUNTING):
            for (_, _, wait), weight in found.items():
                add_weight(later, (0, 0, wait), weight)
        weights = later
    return sum(weights.values())


def count_readings(almanac, wakings):
    """Return how many unlike readings the stories with so many wakings have."""
    check_almanac(almanac)
    check_number(wakings, MOST_WAKINGS)
    hours = almanac[0]
    turns = turn_table(almanac)
    # How many readings leave this reading and these waits.
    level = {(0, 1): 1}
    turns_known = {}
    for _ in range(wakings - 1):
        later = {}
        for (reading, waits), many in level.items():
            if waits not in turns_known:
                turns_known[waits] = waits_turned(turns, waits)
            for turn, waits_later in turns_known[waits]:
                add_weight(later, ((reading + turn) % hours, waits_later), many)
        level = later
        if len(level) > MOST_SETS:
            raise TooMany(MOST_SETS)
    return sum(level.values())


def count_with(almanac, readings):
    """Return how many stories have just these readings."""
    check_almanac(almanac)
    check_readings(almanac, readings)
    return weight_with(almanac, readings, COUNTING)


def reading_chance(almanac, chance, readings):
    """Return the chance that the first readings are these."""
    check_almanac(almanac)
    check_chance(chance)
    check_readings(almanac, readings)
    pace = pace_of(almanac, chance)
    whole = 1
    for _ in readings[1:]:
        whole = whole * whole_weight(almanac, pace)
    return in_lowest_terms(weight_with(almanac, readings, pace), whole)


def fail_chance(almanac, chance, table, wakings):
    """Return the chance that a keeper with a table fails at one of the first wakings."""
    check_almanac(almanac)
    check_chance(chance)
    check_table(almanac, table)
    check_number(wakings, MOST_WATCHED)
    pace = pace_of(almanac, chance)
    whole = 1
    weights, failed = woken(almanac, table, [(0, {((0, 0), 0, 1): 1})])
    for _ in range(wakings - 1):
        weights, failed_now = woken(almanac, table, gaps_weighed(almanac, weights, pace))
        factor = whole_weight(almanac, pace)
        failed = failed * factor + failed_now
        whole = whole * factor
    return in_lowest_terms(failed, whole)


def check_chance(value):
    """Raise BadNumber for what is no chance."""
    if not is_tuple_of(value, 2) or not is_within(value[1], 1, MOST_BOTTOM) or not is_within(value[0], 0, value[1]):
        raise BadNumber()


def pace_of(almanac, chance):
    """Return the pace of a chance: an hour multiplies what goes on by the same, set or not."""
    top, bottom = chance
    many = len(almanac[5])
    if many == 0:
        return COUNTING
    return (bottom * many, (bottom - top) * many, top)


def in_lowest_terms(top, bottom):
    """Return a pair of integers, the second one above 0, in lowest terms."""
    common = gcd(top, bottom)
    return (top // common, bottom // common)


def turn_table(almanac):
    """Return for each turn of the clock from waking to waking: for each wait from 1 on, the waits to which it leads."""
    hours, rest = almanac[0], almanac[6]
    turns = [[0] * rest for _ in range(hours)]
    for (gap, change), row in gap_table(almanac).items():
        turned = turns[(gap + change) % hours]
        for at, waits in enumerate(row):
            turned[at] = turned[at] | waits
    return turns


def waits_turned(turns, waits):
    """Return pairs of a turn and the waits to which it leads from some waits."""
    found = []
    for turn, row in enumerate(turns):
        later = 0
        for at in bits(waits):
            later = later | row[at]
        if later:
            found.append((turn, later))
    return found


def weight_with(almanac, readings, pace):
    """Return how much all stories with these readings weigh."""
    if readings[0] != 0:
        return 0
    hours = almanac[0]
    weights = {(0, 0, 1): 1}
    for before, reading in zip(readings, readings[1:]):
        later = {}
        for gap, found in gaps_weighed(almanac, weights, pace):
            # The error is told from the waking before, where the clock showed the same in all these stories.
            for (_, change, wait), weight in found.items():
                if (before + gap + change) % hours == reading:
                    add_weight(later, (0, 0, wait), weight)
        weights = later
    return sum(weights.values())


def woken(almanac, table, gaps):
    """Return the weights behind a waking at which the keeper doesn't fail, and how much weighs at which he does.

    A place is here (hour less hours times the deeds done, state).
    """
    hours = almanac[0]
    weights = {}
    failed = 0
    for gap, found in gaps:
        for ((hour_before, state), error, wait), weight in found.items():
            hour = hour_before + gap
            entry = table[state][(hour + error) % hours]
            if entry is None or is_wrong(almanac, hour, entry[1]):
                failed = failed + weight
            else:
                place = (hour - hours * entry[1], entry[0])
                add_weight(weights, (place, error, wait), weight)
    return weights, failed
