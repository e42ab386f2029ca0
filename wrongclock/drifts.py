"""How far the hours of two stories with the same readings drift apart.

How a pair of stories can go on depends on their waits alone: pairs (wait, other wait).
"""

from wrongclock.checks import MOST_WAKINGS, check_almanac, check_number
from wrongclock.gaps import bits, gap_table

START = (1, 1)


def spread(almanac, wakings):
    """Return the greatest difference of the last wakings' hours of two stories with the same readings."""
    check_almanac(almanac)
    check_number(wakings, MOST_WAKINGS)
    pair_steps = steps_of_pairs(almanac)
    furthest = {START: 0}
    for _ in range(wakings - 1):
        furthest = furthest_later(pair_steps, furthest)
    return max(furthest.values())


def drift(almanac):
    """Return the greatest spread over all numbers of wakings, "endless" if there is none."""
    check_almanac(almanac)
    pair_steps = steps_of_pairs(almanac)
    furthest = {START: 0}
    # Who goes on for more wakings than there are pairs comes to one again: if that still gains, it always can.
    for _ in range(almanac[6] ** 2 + 1):
        known = furthest
        furthest = with_further(known, furthest_later(pair_steps, known))
        if furthest == known:
            return max(furthest.values())
    return "endless"


def furthest_later(pair_steps, furthest):
    """Return how far ahead the first one can be a waking later with each pair of waits."""
    later = {}
    for pair, ahead in furthest.items():
        for goal, further in pair_steps[pair]:
            later[goal] = max(ahead + further, later.get(goal, ahead + further))
    return later


def with_further(furthest, later):
    """Return the greater of two distances for each pair of waits that either has."""
    most = {pair: furthest[pair] for pair in furthest}
    for pair, ahead in later.items():
        most[pair] = max(ahead, most.get(pair, ahead))
    return most


def steps_of_pairs(almanac):
    """Return for each pair of waits where a waking more leads: pairs (pair of waits, how much further ahead)."""
    gaps = gaps_by_turn(almanac)
    waits = range(1, almanac[6] + 1)
    return {(wait, other): steps_of_pair(gaps[wait], gaps[other]) for wait in waits for other in waits}


def gaps_by_turn(almanac):
    """Return for each wait, and by how much the clock goes on: a dict of (least gap, greatest gap) by the next wait."""
    hours, rest = almanac[0], almanac[6]
    gaps = {wait: [{} for _ in range(hours)] for wait in range(1, rest + 1)}
    for (gap, change), row in gap_table(almanac).items():
        for at, waits in enumerate(row):
            ends = gaps[at + 1][(gap + change) % hours]
            for after in bits(waits):
                least, greatest = ends.get(after + 1, (gap, gap))
                ends[after + 1] = (min(least, gap), max(greatest, gap))
    return gaps


def steps_of_pair(turns, other_turns):
    """Return where a waking more leads, for what gaps_by_turn returns for the waits of a pair."""
    furthest = {}
    for ends, other_ends in zip(turns, other_turns):
        for after, (_, greatest) in ends.items():
            for other_after, (least, _) in other_ends.items():
                goal = (after, other_after)
                furthest[goal] = max(greatest - least, furthest.get(goal, greatest - least))
    return list(furthest.items())
