"""What signs tell at a waking, and whether two stories are seen alike."""

from math import lcm

from wrongclock.checks import ascends, is_tuple_of, is_within
from wrongclock.days import shown_in
from wrongclock.errors import BadSigns

MOST_SIGNS = 3
LEAST_SECOND = 2
MOST_SECOND = 12


def check_signs(almanac, value):
    """Raise BadSigns for what are no signs."""
    if not isinstance(value, tuple) or len(value) > MOST_SIGNS:
        raise BadSigns()
    if not all(is_sign(almanac, sign) for sign in value) or not ascends(value):
        raise BadSigns()


def is_sign(almanac, value):
    """Tell whether a value is a sign."""
    last_hour = almanac[0] - 1
    if not isinstance(value, tuple) or not value:
        return False
    if value[0] == "sun":
        return len(value) == 3 and is_within(value[1], 0, last_hour) and is_within(value[2], value[1], last_hour)
    if value[0] == "second":
        return len(value) == 2 and is_within(value[1], LEAST_SECOND, MOST_SECOND)
    if value[0] == "bell":
        return len(value) == 2 and is_within(value[1], 0, last_hour)
    return is_tuple_of(value, 1) and value[0] == "told"


def tells(almanac, sign, before, waking, times):
    """Return what a sign tells at a waking, for the one before and how often the clock was set since then.

    At the first waking, the one before is this one itself.
    """
    hours = almanac[0]
    if sign[0] == "sun":
        return int(sign[1] <= waking % hours <= sign[2])
    if sign[0] == "second":
        return waking % sign[1]
    if sign[0] == "bell":
        return int((sign[1] - before - 1) % hours < waking - before)
    return times


def seen_in(almanac, signs, story):
    """Return for each waking of a story the tuple of the clock's reading and what each sign tells."""
    wakings, sets = story
    seen = []
    before = 0
    for waking, reading in zip(wakings, shown_in(almanac, story)):
        times = len([hour for hour, _ in sets if before < hour <= waking])
        seen.append((reading,) + tuple([tells(almanac, sign, before, waking, times) for sign in signs]))
        before = waking
    return tuple(seen)


class Sights:
    """Tells whether two stories are seen alike at a waking, as far as the true hours decide it."""

    def __init__(self, almanac, signs):
        self.hours = almanac[0]
        self.beat = beat_of(signs)
        self.bells = [sign for sign in signs if sign[0] == "bell"]
        suns = [sign for sign in signs if sign[0] == "sun"]
        self.rows = [
            [[tells(almanac, sign, hour, hour + gap, 0) for sign in suns + self.bells] for gap in range(almanac[4] + 1)]
            for hour in range(self.hours)
        ]

    def are_alike(self, hour, ahead, gap, other_gap):
        """Tell whether gaps of two stories end alike; the first one's begins at an hour, so far ahead of the other's.

        What the second clocks show is alike just if the hours are alike modulo all of theirs.
        """
        if (ahead + gap - other_gap) % self.beat != 0:
            return False
        return self.rows[hour % self.hours][gap] == self.rows[(hour - ahead) % self.hours][other_gap]


def beat_of(signs):
    """Return the least number of hours behind which all second clocks show the same again."""
    beat = 1
    for sign in signs:
        if sign[0] == "second":
            beat = lcm(beat, sign[1])
    return beat
