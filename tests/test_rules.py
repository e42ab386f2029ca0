"""Point 6: the rule, and the hours that may be."""

import unittest
from itertools import product

from tests.helper import DAY, RARE, by_readings, small_almanacs, urgent_by_count
from wrongclock.errors import BadReadings
from wrongclock.rules import may_be, rule
from wrongclock.twins import has_keeper

DRIFTING = (5, 0, 4, 1, 3, (-2, 3), 4)
STUCK = (6, 2, 7, 1, 4, (-3,), 12)


class Rules(unittest.TestCase):
    def test_examples(self):
        self.assertEqual([may_be(DAY, (0, 2)), may_be(DAY, (0, 3))], [(1, 2), (2,)])
        self.assertEqual([rule(DAY, (0,)), rule(DAY, (0, 2))], [0, 1])
        with self.assertRaises(BadReadings):
            may_be(DAY, (1,))

    def test_hours_against_all_stories(self):
        for almanac in small_almanacs() + [DRIFTING, STUCK]:
            for many in (1, 2, 3):
                for shown, alike in by_readings(almanac, many).items():
                    self.assertEqual(may_be(almanac, shown), tuple(sorted({story[0][-1] for story in alike})))

    def test_waits_of_unlike_ways_to_an_hour(self):
        # Hour 4 comes by unlike gaps, with unlike waits; all of them count for the waking behind it.
        almanac = (5, 0, 4, 1, 3, (-1, 1), 3)
        for shown, alike in by_readings(almanac, 4).items():
            self.assertEqual(may_be(almanac, shown), tuple(sorted({story[0][-1] for story in alike})))

    def test_rule_against_all_stories(self):
        for almanac in small_almanacs() + [DRIFTING, STUCK]:
            ends = {}
            for many in (1, 2, 3):
                for shown, alike in by_readings(almanac, many).items():
                    ends[shown] = max(urgent_by_count(almanac, story[0][-1]) for story in alike)
            for shown in ends:
                self.assertEqual(rule(almanac, shown), max(ends[shown[:many]] for many in range(1, len(shown) + 1)))

    def test_a_beginning_counts_though_its_story_goes_no_further(self):
        # By (0, 1) it may be hour 4, with the clock set back at it; then it can't show 0 at the next waking.
        almanac = STUCK
        self.assertEqual([may_be(almanac, (0, 1)), may_be(almanac, (0, 1, 0))], [(1, 4), (3,)])
        self.assertEqual([urgent_by_count(almanac, hour) for hour in (0, 1, 3, 4)], [0, 0, 0, 1])
        self.assertEqual([rule(almanac, (0,)), rule(almanac, (0, 1)), rule(almanac, (0, 1, 0))], [0, 1, 1])

    def test_readings_that_no_story_has(self):
        for almanac in ((4, 1, 3, 2, 3, (-1,), 2), DAY, DRIFTING):
            told = by_readings(almanac, 3)
            for shown in product(range(almanac[0]), repeat=3):
                if shown not in told:
                    for function in (rule, may_be):
                        with self.assertRaises(BadReadings):
                            function(almanac, shown)

    def test_wrong_readings(self):
        for wrong in (
            None, 0, "0", [], [0], {0: 0}, (), (None,), (False,), (0, True), (0, "2"), (0, (2,)), (0, [2]), (-1,),
            (0, 4), (0, -1), (0,) * 61, (0, 2) * 31,
        ):
            for function in (rule, may_be):
                with self.assertRaises(BadReadings):
                    function(DAY, wrong)

    def test_sixty_readings(self):
        calm = (4, 1, 3, 1, 1, (), 1)
        shown = tuple(hour % 4 for hour in range(60))
        self.assertEqual((may_be(calm, shown), rule(calm, shown)), ((59,), 15))
        with self.assertRaises(BadReadings):
            may_be(calm, shown + (0,))

    def test_many_possible_hours(self):
        wide = (12, 0, 11, 1, 24, (-2, -1, 1, 2), 1)
        self.assertEqual(may_be(wide, (0,) + (5, 7) * 5)[-1], 240)

    def test_rule_does_not_ask_whether_there_is_a_keeper(self):
        self.assertFalse(has_keeper(RARE))
        self.assertEqual((rule(RARE, (0,)), may_be(RARE, (0, 1))), (1, (1,)))


if __name__ == "__main__":
    unittest.main()
