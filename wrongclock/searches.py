"""The shortest conflict of a scene, and the limits of looking for it."""

from wrongclock.checks import MOST_WAKINGS, is_story, is_tuple_of
from wrongclock.days import opened_by, urgent_at
from wrongclock.errors import TooMany
from wrongclock.pairs import MOST_PLACES, Walk, count_places
from wrongclock.sights import seen_in
from wrongclock.traces import Trace


class Search:
    """The search for the shortest conflict of a scene; it raises TooMany(most) if most is less than what it meets."""

    def __init__(self, scene, most):
        self.scene = scene
        self.walk = Walk(scene, False)
        self.met = self.walk.levels(most)
        self.ground = self.walk.clash_in(self.met[-1])

    def found(self):
        """Tell whether there is a conflict."""
        return self.ground is not None

    def wakings(self):
        """Return how many wakings the shortest conflict has."""
        return len(self.met)

    def check_wakings(self):
        """Raise TooMany if the shortest conflict has too many wakings."""
        if self.found() and self.wakings() > MOST_WAKINGS:
            raise TooMany(MOST_WAKINGS)

    def check_places(self):
        """Raise TooMany if too many places come by the shortest conflict, or at all if there is none."""
        whole = Walk(self.scene, True)
        # So many places of the whole walk may be one of the short walk.
        share = whole.turns * whole.period // self.walk.period
        if share * sum([count_places(level) for level in self.met]) > MOST_PLACES:
            whole.levels(MOST_PLACES)

    def stories(self):
        """Return a shortest conflict, None if there is none."""
        if not self.found():
            return None
        return Trace(self.walk).stories(self.met, self.ground)

    def shows(self, value):
        """Tell whether a value is a shortest conflict, or None if there is none."""
        if not self.found():
            return value is None
        return is_conflict(self.scene, value) and len(value[0][0]) == self.wakings()


def search_within_limits(scene):
    """Return the search in a scene; raise TooMany for too many wakings ahead of too many places."""
    search = Search(scene, None)
    search.check_wakings()
    search.check_places()
    return search


def is_conflict(scene, value):
    """Tell whether a value is a conflict in a scene, of as many wakings as may be passed."""
    almanac, deeds, signs = scene
    if not is_tuple_of(value, 2) or not all(is_story(almanac, story) for story in value):
        return False
    one, other = value
    if seen_in(almanac, signs, one) != seen_in(almanac, signs, other):
        return False
    return urgent_at(deeds, one[0][-1]) > opened_by(deeds, other[0][-1])
