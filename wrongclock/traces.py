"""Two stories that lead to a place, told from the levels of a walk."""

from wrongclock.gaps import bits, story_of


class Trace:
    """The way back of a walk without errors from its last level, with the steps of both stories.

    A place is here (hour, ahead, wait, other wait).
    """

    def __init__(self, walk):
        self.almanac = walk.almanac
        self.table = walk.table

    def stories(self, levels, ground):
        """Return two stories that lead to a ground of the last level."""
        rest = self.almanac[6]
        at, other_at = divmod(bits(levels[-1][ground])[0], rest)
        place = (ground[0], ground[1], at + 1, other_at + 1)
        steps = []
        other_steps = []
        for level in reversed(levels[:-1]):
            step, other_step = self.step_to(level, place)
            steps.append(step)
            other_steps.append(other_step)
            place = self.place_before(place, step, other_step)
        return (story_of(self.almanac, steps[::-1]), story_of(self.almanac, other_steps[::-1]))

    def place_before(self, place, step, other_step):
        """Return the place from which a step of each story leads to a place."""
        gap, other_gap = step[0], other_step[0]
        return ((place[0] - gap) % self.almanac[0], place[1] - gap + other_gap, step[2], other_step[2])

    def step_to(self, level, place):
        """Return a step of each story that leads from a place of the level to a place."""
        hours, soon, late = self.almanac[0], self.almanac[3], self.almanac[4]
        hour, ahead, wait, other_wait = place
        for gap in range(soon, late + 1):
            for other_gap in range(soon, late + 1):
                ground = ((hour - gap) % hours, ahead - gap + other_gap, 0)
                for pair in bits(level.get(ground, 0)):
                    found = self.step_between(gap, other_gap, pair, (wait, other_wait))
                    if found is not None:
                        return found
        return None

    def step_between(self, gap, other_gap, pair, waits_after):
        """Return a step of each story with these gaps from a pair of waits, None if there is none."""
        hours, rest = self.almanac[0], self.almanac[6]
        at, other_at = divmod(pair, rest)
        after, other_after = waits_after
        for change in range(hours):
            other_change = (gap + change - other_gap) % hours
            if self.leads(gap, change, at, after) and self.leads(other_gap, other_change, other_at, other_after):
                return (gap, change, at + 1, after), (other_gap, other_change, other_at + 1, other_after)
        return None

    def leads(self, gap, change, at, after):
        """Tell whether a gap with a change can lead from a wait, told from 0, to a wait."""
        waits = self.table.get((gap, change))
        return waits is not None and (waits[at] >> (after - 1)) & 1 == 1
