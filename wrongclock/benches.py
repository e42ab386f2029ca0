"""A bench on which hours go by one by one, the clock is set, and the keeper is woken and does deeds."""

from wrongclock.checks import check_almanac, is_integer
from wrongclock.days import shut_before
from wrongclock.errors import BadStep


class Bench:
    """What happens with an almanac, step by step; at hour 0 the keeper is woken."""

    def __init__(self, almanac):
        check_almanac(almanac)
        self._almanac = almanac
        self._hour = 0
        self._last_waking = 0
        self._error = 0
        self._settable_from = 1
        self._done = []

    def pass_hour(self, setting):
        """Let an hour go by, in which the clock is set by a setting, or not for None."""
        late, rest = self._almanac[4], self._almanac[6]
        if self._hour - self._last_waking >= late:
            raise BadStep()
        later = self._hour + 1
        if setting is not None:
            if later < self._settable_from or not is_integer(setting) or setting not in self._almanac[5]:
                raise BadStep()
            self._error = self._error + setting
            self._settable_from = later + rest
        self._hour = later

    def wake(self):
        """Wake the keeper and return what the clock shows."""
        soon = self._almanac[3]
        if self._hour - self._last_waking < soon:
            raise BadStep()
        self._last_waking = self._hour
        return self.shown

    def do(self):
        """Do the next deed."""
        if self._last_waking != self._hour:
            raise BadStep()
        self._done.append(self._hour)

    @property
    def hour(self):
        """The true hour."""
        return self._hour

    @property
    def shown(self):
        """What the clock shows now."""
        return (self._hour + self._error) % self._almanac[0]

    @property
    def done(self):
        """The tuple of the hours at which deeds were done."""
        return tuple(self._done)

    @property
    def harm(self):
        """The ascending tuple of the deeds done outside their windows, or whose windows are over without them."""
        hours, first, last = self._almanac[0], self._almanac[1], self._almanac[2]
        wrong = [deed for deed, hour in enumerate(self._done) if not first <= hour - deed * hours <= last]
        missed = list(range(len(self._done), shut_before(self._almanac, self._hour)))
        return tuple(wrong + missed)
