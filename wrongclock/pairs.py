"""The pairs of stories that the keeper sees alike, gone through waking by waking.

A place of two stories (point 5) is kept in two parts. Its ground is (hour modulo period, ahead, error modulo
turns); the other error follows from the equal readings. Its two waits are one bit of the ground's mask:
bit (wait - 1) * rest + other wait - 1.

In a whole walk these are the places of the document. What may come behind a place does not depend on its error,
nor on what the second clocks show, if it is the same for both. So a short walk, with turns = 1 and the hours of
the deeds as its period, is enough, and much faster, to find the shortest conflict.
"""

from math import lcm

from wrongclock.days import opened_by, urgent_at
from wrongclock.errors import TooMany
from wrongclock.gaps import bits, step_table
from wrongclock.sights import Sights, beat_of

START = (0, 0, 0)
MOST_PLACES = 40000


def clashes(deeds, hour, ahead):
    """Tell whether more deeds are urgent at the first one's last waking than opened at the second one's."""
    # A deed later for both changes nothing, so any hour will do at which neither of them is below 0.
    true_hour = hour + deeds[0] * (abs(ahead) + 1)
    return urgent_at(deeds, true_hour) > opened_by(deeds, true_hour - ahead)


def spread_waits(waits, rest):
    """Return the mask of pairs in which the first one has one of these waits and the second one has wait 1."""
    return sum([1 << (at * rest) for at in bits(waits)])


class Walk:
    """The places to which pairs of stories lead in a scene."""

    def __init__(self, scene, is_whole):
        almanac, deeds, signs = scene
        self.almanac = almanac
        self.deeds = deeds
        self.signs = signs
        self.turns = almanac[0] if is_whole else 1
        self.period = lcm(deeds[0], beat_of(signs)) if is_whole else deeds[0]
        self.table = step_table(almanac, 0 if ("told",) in signs else None)
        self.sights = Sights(almanac, signs)
        self.moves_known = {}

    def moves(self, pair):
        """Return where a waking more leads from a pair of waits: tuples (gap, other gap, change, mask)."""
        if pair not in self.moves_known:
            self.moves_known[pair] = self.worked_out_moves(pair)
        return self.moves_known[pair]

    def worked_out_moves(self, pair):
        """Work out what moves(pair) returns."""
        hours, soon, late, rest = self.almanac[0], self.almanac[3], self.almanac[4], self.almanac[6]
        at, other_at = divmod(pair, rest)
        gaps_met = {}
        met = {}
        for (gap, change, times), waits in self.table.items():
            if waits[at] == 0:
                continue
            wide = spread_waits(waits[at], rest)
            for other_gap in range(soon, late + 1):
                other_waits = self.table.get((other_gap, (gap + change - other_gap) % hours, times))
                if other_waits is None or other_waits[other_at] == 0:
                    continue
                key = (self.gap_kind(gap), gap - other_gap, change % self.turns)
                gaps_met.setdefault(key, (gap, other_gap))
                met[key] = met.get(key, 0) | (wide * other_waits[other_at])
        return [gaps_met[key] + (key[2], mask) for key, mask in met.items()]

    def gap_kind(self, gap):
        """Return what is the same for gaps that come to the same if the other ones are so much longer or shorter."""
        # A bell tells a longer gap from one that is shorter by whole days.
        return gap if self.sights.bells else gap % self.period

    def reached_from(self, ground, pair):
        """Return the places to which a waking more leads from a place: pairs of ground and mask."""
        hour, ahead, error = ground
        return [
            (((hour + gap) % self.period, ahead + gap - other_gap, (error + change) % self.turns), mask)
            for gap, other_gap, change, mask in self.moves(pair)
            if not self.signs or self.sights.are_alike(hour, ahead, gap, other_gap)
        ]

    def onward(self, level):
        """Return the places, a mask for each ground, to which a waking more leads from those of a level."""
        reached = {}
        for ground, pairs in level.items():
            for pair in bits(pairs):
                for goal, mask in self.reached_from(ground, pair):
                    reached[goal] = reached.get(goal, 0) | mask
        return reached

    def clash_in(self, level):
        """Return a ground of a level with a conflict, None if there is none."""
        for ground in level:
            if clashes(self.deeds, ground[0], ground[1]):
                return ground
        return None

    def levels(self, most):
        """Return the new places of each number of wakings, up to the shortest conflict or to the end.

        Raise TooMany if there are more of them than most, where this is not None.
        """
        level = {START: 1}
        seen = {START: 1}
        levels = []
        many = 0
        while level:
            levels.append(level)
            many += count_places(level)
            if most is not None and many > most:
                raise TooMany(most)
            if self.clash_in(level) is not None:
                break
            level = newly_reached(self.onward(level), seen)
        return levels


def newly_reached(reached, seen):
    """Return what of the places reached was not seen yet, and add it to the places seen."""
    fresh = {}
    for ground, mask in reached.items():
        known = seen.get(ground, 0)
        if mask & ~known:
            fresh[ground] = mask & ~known
            seen[ground] = known | mask
    return fresh


def count_places(level):
    """Return how many places a level has."""
    return sum([len(bits(mask)) for mask in level.values()])
