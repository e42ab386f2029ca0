"""Point 14: how far the hours of stories with the same readings drift apart."""

import unittest

from tests.helper import CALM, DAY, ODD_VALUES, by_readings, small_almanacs
from wrongclock.drifts import drift, spread
from wrongclock.errors import BadAlmanac, BadNumber

LARGEST = (12, 0, 11, 1, 24, (-3, -1, 1, 4), 12)


def spread_by_count(almanac, many):
    """The greatest difference of the last wakings' hours among all stories with so many wakings."""
    ends = [[story[0][-1] for story in alike] for alike in by_readings(almanac, many).values()]
    return max(max(hours) - min(hours) for hours in ends)


def spreads_hour_by_hour(almanac, most):
    """The same for each number of wakings up to most, by pairs of waits, each waking all ways gone through."""
    hours, soon, late, settings, rest = almanac[0], *almanac[3:]
    ways = {}
    for wait in range(1, rest + 1):
        now = {(0, wait)}
        for gap in range(1, late + 1):
            now = {(turned, max(1, left - 1)) for turned, left in now} | {
                ((turned + setting) % hours, rest) for turned, left in now if left == 1 for setting in settings
            }
            if gap >= soon:
                ways.setdefault(wait, set()).update(((turned + gap) % hours, gap, left) for turned, left in now)
    ahead = {(1, 1): 0}
    found = [0]
    for _ in range(most - 1):
        later = {}
        for (wait, other), by in ahead.items():
            for turn, gap, left in ways[wait]:
                for other_turn, other_gap, other_left in ways[other]:
                    if turn == other_turn:
                        pair = (left, other_left)
                        later[pair] = max(later.get(pair, by + gap - other_gap), by + gap - other_gap)
        ahead = later
        found.append(max(ahead.values()))
    return found


class Drifts(unittest.TestCase):
    def test_examples(self):
        self.assertEqual([spread(DAY, 1), spread(DAY, 2), drift(DAY), drift(CALM)], [0, 1, "endless", 0])
        self.assertEqual(drift((4, 1, 3, 1, 1, (-1, 1), 1)), 0)

    def test_spread_against_all_stories(self):
        met = set()
        for almanac in small_almanacs():
            for many in (1, 2, 3):
                self.assertEqual(spread(almanac, many), spread_by_count(almanac, many))
                met.add(spread(almanac, many))
        self.assertTrue({0, 1, 2} <= met)

    def test_spread_of_many_wakings(self):
        for almanac in (DAY, (5, 0, 4, 1, 3, (-2, 3), 4), (7, 0, 3, 2, 4, (3,), 5), (3, 1, 3, 3, 7, (), 1)):
            spreads = spreads_hour_by_hour(almanac, 60)
            for many in (1, 2, 7, 30, 59, 60):
                self.assertEqual(spread(almanac, many), spreads[many - 1])

    def test_drift_is_the_greatest_spread(self):
        # Who gets ahead once can do so again when both may be set again: there is no greatest one above 0.
        met = {0: 0, "endless": 0}
        almanacs = small_almanacs()[::3] + [
            (hours, 0, 1, soon, soon + more, (setting,), rest)
            for hours in (5, 7) for setting in (-3, 2) for soon in (1, 4) for more in (0, 1, 3) for rest in (2, 12)
        ]
        for almanac in almanacs:
            spreads = [spread(almanac, many) for many in (1, 2, 3, 4, 30, 60)]
            self.assertEqual(drift(almanac), "endless" if max(spreads) > 0 else 0)
            self.assertEqual(spreads[-1] > spreads[-2], max(spreads) > 0)
            met[drift(almanac)] += 1
        self.assertTrue(min(met.values()) > 5, met)

    def test_whole_days(self):
        # Without a setting, the hours are alike modulo the day: a gap of a day more shows the same.
        self.assertEqual([spread((3, 0, 1, 1, 3, (), 1), many) for many in (1, 2, 60)], [0, 0, 0])
        self.assertEqual([spread((3, 0, 1, 1, 4, (), 1), many) for many in (1, 2, 60)], [0, 3, 177])
        self.assertEqual([drift((3, 0, 1, 1, 3, (), 1)), drift((3, 0, 1, 1, 4, (), 1))], [0, "endless"])

    def test_the_window_does_not_matter(self):
        for first, last in ((0, 0), (1, 3), (3, 6)):
            almanac = DAY[:1] + (first, last) + DAY[3:]
            self.assertEqual([spread(almanac, many) for many in (2, 9)], [spread(DAY, many) for many in (2, 9)])

    def test_largest_almanacs(self):
        # No almanac has more than 12 ** 4 = 20736 pairs of errors and waits.
        self.assertEqual(drift(LARGEST), "endless")
        self.assertGreater(spread(LARGEST, 60), spread(LARGEST, 59))
        self.assertEqual(drift((12, 0, 11, 24, 24, (-3, -1, 1, 4), 12)), 0)

    def test_wrong_numbers(self):
        for wakings in ODD_VALUES + (0, 61, -1, 2.0, (2,), "2"):
            with self.assertRaises(BadNumber, msg=wakings):
                spread(DAY, wakings)
        with self.assertRaises(BadAlmanac):
            spread(DAY[:6], 0)
        with self.assertRaises(BadAlmanac):
            drift(DAY[:6])


if __name__ == "__main__":
    unittest.main()
