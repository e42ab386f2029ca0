"""Two stories that lead to a place, told from the levels of a walk."""

from wrongclock.gaps import bits, story_of


class Trace:
    """The way back of a short walk from its last level, with the steps of both stories.

    A place is here (hour, ahead, wait, other wait).
    """

    def __init__(self, walk):
        self.walk = walk
        self.almanac = walk.almanac

    def stories(self, levels, ground):
        """Return two stories that lead to a ground of the last level."""
        rest = self.almanac[6]
        at, other_at = divmod(bits(levels[-1][ground])[0], rest)
        place = (ground[0], ground[1], at + 1, other_at + 1)
        steps = []
        other_steps = []
        for level in reversed(levels[:-1]):
            step, other_step = self.step_to(level, place)
            steps.append(step)
            other_steps.append(other_step)
            hour, ahead = self.before(place, step[0], other_step[0])
            place = (hour, ahead, step[3], other_step[3])
        return (story_of(self.almanac, steps[::-1]), story_of(self.almanac, other_steps[::-1]))

    def before(self, place, gap, other_gap):
        """Return the hour and how far ahead it is from which these gaps lead to a place."""
        return ((place[0] - gap) % self.walk.period, place[1] - gap + other_gap)

    def step_to(self, level, place):
        """Return a step of each story that leads from a place of the level to a place."""
        soon, late = self.almanac[3], self.almanac[4]
        for gap in range(soon, late + 1):
            for other_gap in range(soon, late + 1):
                hour, ahead = self.before(place, gap, other_gap)
                if not self.walk.sights.are_alike(hour, ahead, gap, other_gap):
                    continue
                for pair in bits(level.get((hour, ahead, 0), 0)):
                    found = self.step_between(gap, other_gap, pair, place[2:])
                    if found is not None:
                        return found
        return None

    def step_between(self, gap, other_gap, pair, waits_after):
        """Return a step of each story with these gaps from a pair of waits, None if there is none."""
        hours, rest = self.almanac[0], self.almanac[6]
        at, other_at = divmod(pair, rest)
        after, other_after = waits_after
        for met_gap, change, times in self.walk.table:
            step = (gap, change, times, at + 1, after)
            other_step = (other_gap, (gap + change - other_gap) % hours, times, other_at + 1, other_after)
            if met_gap == gap and self.leads(step) and self.leads(other_step):
                return step, other_step
        return None

    def leads(self, step):
        """Tell whether there is such a step."""
        gap, change, times, wait, wait_after = step
        waits = self.walk.table.get((gap, change, times))
        return waits is not None and (waits[wait - 1] >> (wait_after - 1)) & 1 == 1
