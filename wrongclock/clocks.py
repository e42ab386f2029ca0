"""What the clock can be behind a waking: its error and its wait.

Clocks are a set of pairs (error, wait), kept as the bits of an integer: bit error * rest + wait - 1.
"""

from wrongclock.gaps import bits, gap_table

FIRST_CLOCK = 1


class Clocks:
    """What comes of clocks from one waking to the next."""

    def __init__(self, almanac):
        self.almanac = almanac
        self.table = gap_table(almanac)
        self.rows_known = {}

    def with_error(self, error):
        """Return all clocks that have an error."""
        rest = self.almanac[6]
        return ((1 << rest) - 1) << (error * rest)

    def at_gaps(self, clocks):
        """Return what some clocks can be behind each gap: pairs (gap, clocks)."""
        soon, late = self.almanac[3], self.almanac[4]
        row = [0] * (late + 1 - soon)
        for place in bits(clocks):
            row = [known | more for known, more in zip(row, self.row_of(place))]
        return [(soon + further, later) for further, later in enumerate(row)]

    def row_of(self, place):
        """Return what the clock of a bit's place can be, behind each gap from soon on."""
        if place not in self.rows_known:
            soon, late = self.almanac[3], self.almanac[4]
            self.rows_known[place] = [self.behind(gap, place) for gap in range(soon, late + 1)]
        return self.rows_known[place]

    def behind(self, gap, place):
        """Work out what the clock of a bit's place can be behind a gap."""
        hours, rest = self.almanac[0], self.almanac[6]
        error, at = divmod(place, rest)
        later = 0
        for change in range(hours):
            waits = self.table.get((gap, change))
            if waits is not None:
                later = later | (waits[at] << ((error + change) % hours * rest))
        return later

    def step_between(self, gap, place, later_place):
        """Return the step by which a gap leads from a clock to a clock, both told by their bits' places."""
        hours, rest = self.almanac[0], self.almanac[6]
        error, at = divmod(place, rest)
        later_error, later_at = divmod(later_place, rest)
        return (gap, (later_error - error) % hours, None, at + 1, later_at + 1)
