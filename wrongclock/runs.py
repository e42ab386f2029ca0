"""A keeper with a table in all stories at once, waking by waking, up to the first at which he fails.

What comes of a story (point 7) is kept in two parts. Its ground is (hour less hours times the deeds done,
state, whether the keeper fails at this waking); the state is None where the table expects no such reading.
Its error and wait are one of the ground's clocks.
"""

from wrongclock.checks import MOST_WAKINGS
from wrongclock.clocks import FIRST_CLOCK
from wrongclock.errors import TooMany
from wrongclock.gaps import bits, story_of
from wrongclock.pairs import MOST_PLACES, count_places, newly_reached
from wrongclock.tables import is_wrong


class Run:
    """What comes of a keeper with a table; clocks is the Clocks of the almanac."""

    def __init__(self, almanac, table, clocks):
        self.almanac = almanac
        self.table = table
        self.clocks = clocks
        self.branches_known = {}

    def branches(self, hour, state):
        """Return where a waking leads: pairs of a ground and all clocks with which it leads there."""
        if (hour, state) not in self.branches_known:
            self.branches_known[hour, state] = self.worked_out_branches(hour, state)
        return self.branches_known[hour, state]

    def worked_out_branches(self, hour, state):
        """Work out what branches(hour, state) returns."""
        hours = self.almanac[0]
        met = {}
        for error in range(hours):
            ground = self.ground_behind(hour, self.table[state][(hour + error) % hours])
            met[ground] = met.get(ground, 0) | self.clocks.with_error(error)
        return list(met.items())

    def ground_behind(self, hour, entry):
        """Return the ground to which an entry of the table leads at an hour."""
        if entry is None:
            return (hour, None, True)
        next_state, deeds = entry
        return (hour - self.almanac[0] * deeds, next_state, is_wrong(self.almanac, hour, deeds))

    def first_level(self):
        """Return what comes by the first waking: the clocks of each ground."""
        return {ground: FIRST_CLOCK for ground, clocks in self.branches(0, 0) if clocks & FIRST_CLOCK}

    def onward(self, level):
        """Return what comes a waking behind a level."""
        reached = {}
        for (hour, state, _), clocks in level.items():
            for gap, later in self.clocks.at_gaps(clocks):
                for ground, fitting in self.branches(hour + gap, state):
                    if later & fitting:
                        reached[ground] = reached.get(ground, 0) | (later & fitting)
        return reached

    def levels(self):
        """Return what newly comes by each number of wakings, up to the first with which the keeper fails."""
        seen = {}
        level = newly_reached(self.first_level(), seen)
        levels = []
        while level:
            levels.append(level)
            if failing_ground(level) is not None:
                break
            level = newly_reached(self.onward(level), seen)
        return levels

    def story(self, levels, ground):
        """Return a story that leads to a ground of the last level."""
        place = bits(levels[-1][ground])[0]
        steps = []
        for level in reversed(levels[:-1]):
            gap, ground_before, place_before = self.came_from(level, ground, place)
            steps.append(self.clocks.step_between(gap, place_before, place))
            ground, place = ground_before, place_before
        return story_of(self.almanac, steps[::-1])

    def came_from(self, level, ground, place):
        """Return what of a level leads to a ground with the clock of a bit's place: (gap, ground, place)."""
        for ground_before, clocks in level.items():
            hour, state, _ = ground_before
            for place_before in bits(clocks):
                for gap, later in self.clocks.at_gaps(1 << place_before):
                    if (later >> place) & 1 and self.leads(hour + gap, state, ground, place):
                        return (gap, ground_before, place_before)
        return None

    def leads(self, hour, state, ground, place):
        """Tell whether a waking with the clock of a bit's place leads to a ground."""
        return any((clocks >> place) & 1 for goal, clocks in self.branches(hour, state) if goal == ground)


def failing_ground(level):
    """Return a ground of a level at which the keeper fails, None if there is none."""
    for ground in level:
        if ground[2]:
            return ground
    return None


def levels_within_limits(run):
    """Return the levels of a run; raise TooMany as point 7 says."""
    levels = run.levels()
    if failing_ground(levels[-1]) is not None and len(levels) > MOST_WAKINGS:
        raise TooMany(MOST_WAKINGS)
    if sum([count_places(level) for level in levels]) > MOST_PLACES:
        raise TooMany(MOST_PLACES)
    return levels
