"""A keeper with a table in all stories at once, by how often the clock is set, and then waking by waking.

What comes of a story is kept as in runs. A cost is a pair (settings, wakings).
"""

from wrongclock.checks import MOST_WAKINGS
from wrongclock.clocks import Clocks
from wrongclock.errors import TooMany
from wrongclock.gaps import bits, step_table, story_of
from wrongclock.pairs import MOST_PLACES, count_places, newly_reached
from wrongclock.runs import Run, failing_ground


class CheapRun:
    """The search for the story with the least cost at whose last waking a keeper with a table fails."""

    def __init__(self, almanac, table):
        self.almanac = almanac
        self.run = Run(almanac, table, Clocks(almanac))
        self.table = step_table(almanac, 0)
        self.ways_known = {}
        self.met = {}
        self.cost = (0, 1)
        self.ground = None
        self.search()

    def search(self):
        """Find the levels of what newly comes with each cost, up to the first one with which the keeper fails."""
        seen = {}
        reached = {self.cost: self.run.first_level()}
        while reached and self.ground is None:
            self.cost = min(reached)
            level = newly_reached(reached.pop(self.cost), seen)
            if level:
                self.met[self.cost] = level
                self.ground = failing_ground(level)
                self.add_onward(level, reached)

    def add_onward(self, level, reached):
        """Add to what is reached with each cost that to which a waking more leads from the level of this cost."""
        settings, wakings = self.cost
        for (hour, state, fails), clocks in level.items():
            if fails:
                continue
            for (gap, times), later in self.ways_of(clocks).items():
                goals = reached.setdefault((settings + times, wakings + 1), {})
                for ground, fitting in self.run.branches(hour + gap, state):
                    if later & fitting:
                        goals[ground] = goals.get(ground, 0) | (later & fitting)

    def ways_of(self, clocks):
        """Return a dict of (gap, times): what some clocks can be behind this gap if they are set so often."""
        ways = {}
        for place in bits(clocks):
            for way, later in self.ways(place).items():
                ways[way] = ways.get(way, 0) | later
        return ways

    def ways(self, place):
        """Return the same for the clock of a bit's place, but each later clock only with the fewest times."""
        if place not in self.ways_known:
            self.ways_known[place] = self.worked_out_ways(place)
        return self.ways_known[place]

    def worked_out_ways(self, place):
        """Work out what ways(place) returns."""
        hours, rest = self.almanac[0], self.almanac[6]
        error, at = divmod(place, rest)
        met = {}
        for (gap, change, times), waits in self.table.items():
            met[gap, times] = met.get((gap, times), 0) | (waits[at] << ((error + change) % hours * rest))
        known = {}
        ways = {}
        for gap, times in sorted(met):
            fresh = met[gap, times] & ~known.get(gap, 0)
            if fresh:
                ways[gap, times] = fresh
                known[gap] = known.get(gap, 0) | fresh
        return ways

    def fails(self):
        """Tell whether the keeper ever fails."""
        return self.ground is not None

    def check_limits(self):
        """Raise TooMany for too many wakings, or if too much comes by as many wakings, or at all if he never fails."""
        if self.fails() and self.cost[1] > MOST_WAKINGS:
            raise TooMany(MOST_WAKINGS)
        self.check_what_comes(self.cost[1] if self.fails() else None)

    def check_what_comes(self, wakings):
        """Raise TooMany if too much comes by so many wakings, or at all for None, while the keeper doesn't fail."""
        seen = {}
        level = newly_reached(self.run.first_level(), seen)
        many = count_places(level)
        at = 1
        while level and at != wakings:
            level = newly_reached(self.run.onward({goal: level[goal] for goal in level if not goal[2]}), seen)
            many += count_places(level)
            at += 1
            if many > MOST_PLACES:
                raise TooMany(MOST_PLACES)

    def story(self):
        """Return a story with the least cost at whose last waking the keeper fails, None if he never does."""
        if not self.fails():
            return None
        cost, ground = self.cost, self.ground
        place = bits(self.met[cost][ground])[0]
        steps = []
        while cost[1] > 1:
            gap, times, ground, place_before = self.came_from(cost, ground, place)
            steps.append(self.step_between(gap, times, place_before, place))
            cost, place = (cost[0] - times, cost[1] - 1), place_before
        return story_of(self.almanac, steps[::-1])

    def came_from(self, cost, ground, place):
        """Return what leads to a ground with the clock of a bit's place: (gap, times, ground, place)."""
        settings, wakings = cost
        for times_before in range(settings + 1):
            for ground_before, clocks in self.met.get((times_before, wakings - 1), {}).items():
                for place_before in bits(clocks):
                    for (gap, times), later in self.ways(place_before).items():
                        if times_before + times != settings or (later >> place) & 1 == 0:
                            continue
                        if self.run.leads(ground_before[0] + gap, ground_before[1], ground, place):
                            return (gap, times, ground_before, place_before)
        return None

    def step_between(self, gap, times, place, later_place):
        """Return the step by which a gap with so many settings leads from a clock to a clock."""
        _, change, _, wait, wait_after = self.run.clocks.step_between(gap, place, later_place)
        return (gap, change, times, wait, wait_after)
