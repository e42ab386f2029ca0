"""Points 2 and 3: almanacs, stories, readings and windows."""

import unittest

from tests.helper import (
    CALM, DAY, ODD_VALUES, opened_by_count, shown, shut_by_count, small_almanacs, stories, urgent_by_count,
)
from wrongclock.almanacs import opened, readings, shut, urgent
from wrongclock.errors import BadAlmanac, BadHour, BadStory

PARTS = ("hours", "first", "last", "soon", "late", "settings", "rest")
NO_INTEGERS = (None, True, False, "", "1", (), [1], {})


def with_part(almanac, part, worth):
    at = PARTS.index(part)
    return almanac[:at] + (worth,) + almanac[at + 1:]


class Almanacs(unittest.TestCase):
    def blamed(self, almanac):
        with self.assertRaises(BadAlmanac) as caught:
            shut(almanac, 0)
        return caught.exception.part

    def test_edges_that_are_allowed(self):
        for almanac in (
            (2, 0, 0, 1, 1, (), 1),
            (2, 1, 2, 24, 24, (-1, 1), 12),
            (12, 0, 11, 1, 24, (-11, -1, 1, 11), 12),
            (12, 11, 22, 24, 24, (11,), 1),
            (12, 11, 11, 1, 1, (-11,), 1),
        ):
            self.assertEqual(shut(almanac, 0), 0)

    def test_no_tuple_of_seven(self):
        for almanac in ODD_VALUES + (DAY[1:], DAY + (1,), list(DAY), dict(enumerate(DAY))):
            self.assertEqual(self.blamed(almanac), "almanac")

    def test_wrong_integers(self):
        base = (6, 2, 4, 3, 5, (-2, 1), 4)
        edges = {"hours": (1, 13), "first": (-1, 6), "last": (1, 8), "soon": (0, 25), "late": (2, 25), "rest": (0, 13)}
        for part, wrong in edges.items():
            for worth in wrong + NO_INTEGERS:
                self.assertEqual(self.blamed(with_part(base, part, worth)), part)

    def test_soon_by_itself_and_late_not_below_it(self):
        self.assertEqual(self.blamed((6, 2, 4, 25, 25, (), 1)), "soon")
        self.assertEqual(self.blamed((6, 2, 4, 6, 5, (), 1)), "late")
        self.assertEqual(self.blamed((4, 4, 5, 1, 2, (), 1)), "first")

    def test_wrong_settings(self):
        for wrong in (
            None, 1, "", [], [1], (0,), (-1, 0, 1), (1, -1), (1, 1), (-6,), (6,), (-3, -2, -1, 1, 2), (True,), (1, "2"),
            (None,), ((1,),), {1: 1},
        ):
            self.assertEqual(self.blamed(with_part((6, 2, 4, 3, 5, (), 4), "settings", wrong)), "settings")
        for right in ((), (-5,), (5,), (-5, -4, 4, 5)):
            self.assertEqual(shut(with_part((6, 2, 4, 3, 5, (), 4), "settings", right), 0), 0)

    def test_the_first_wrong_part_is_named(self):
        wrong = (1, -1, -2, 0, 0, None, 0)
        right = (6, 2, 4, 3, 5, (), 4)
        for many in range(7):
            self.assertEqual(self.blamed(right[:many] + wrong[many:]), PARTS[many])


class Windows(unittest.TestCase):
    def test_examples(self):
        self.assertEqual([shut(DAY, 4), opened(DAY, 4), opened(DAY, 5), urgent(DAY, 2)], [1, 1, 2, 1])

    def test_against_counting(self):
        for almanac in small_almanacs() + [(12, 11, 22, 1, 24, (), 1), (2, 1, 2, 1, 1, (), 1)]:
            for hour in range(3 * almanac[0] + 2):
                self.assertEqual(shut(almanac, hour), shut_by_count(almanac, hour))
                self.assertEqual(opened(almanac, hour), opened_by_count(almanac, hour))
                self.assertEqual(urgent(almanac, hour), urgent_by_count(almanac, hour))

    def test_greatest_hour(self):
        for function, answer in ((shut, 250000000), (opened, 250000000), (urgent, 250000000)):
            self.assertEqual(function(DAY, 10 ** 9), answer)
        self.assertEqual(urgent((4, 1, 3, 1, 4, (), 1), 10 ** 9), 250000001)

    def test_wrong_hours(self):
        for function in (shut, opened, urgent):
            for hour in NO_INTEGERS + (-1, 10 ** 9 + 1):
                with self.assertRaises(BadHour):
                    function(DAY, hour)


class Readings(unittest.TestCase):
    def test_examples(self):
        self.assertEqual(readings(DAY, ((0, 2, 3, 5), ((2, 1),))), (0, 3, 0, 2))
        with self.assertRaises(BadStory):
            readings(DAY, ((0, 3), ()))

    def test_a_setting_is_ahead_of_a_waking_at_its_hour(self):
        self.assertEqual(readings(DAY, ((0, 1, 2), ((1, -1),))), (0, 0, 1))
        self.assertEqual(readings(DAY, ((0, 1, 2), ((2, -1),))), (0, 1, 1))

    def test_against_all_stories(self):
        for almanac in small_almanacs():
            for story in stories(almanac, 3):
                self.assertEqual(readings(almanac, story), shown(almanac, story))

    def test_several_settings_in_a_gap(self):
        almanac = (12, 0, 11, 1, 24, (-11, 5), 2)
        self.assertEqual(readings(almanac, ((0, 6), ((1, 5), (3, 5), (6, -11)))), (0, 5))

    def test_longest_story(self):
        self.assertEqual(readings(DAY, (tuple(range(60)), ())), tuple(hour % 4 for hour in range(60)))
        with self.assertRaises(BadStory):
            readings(DAY, (tuple(range(61)), ()))

    def test_wrong_wakings(self):
        for wakings in (
            None, 0, "0", [0], {0: 0}, (), (1,), (1, 2), (False,), (False, 1), (0, True), (0, None), (0, "1"),
            (0, (1,)), (0, 0), (0, 2, 1), (0, 3), (0, 1, 4), (-1, 0),
        ):
            with self.assertRaises(BadStory):
                readings(DAY, (wakings, ()))
        with self.assertRaises(BadStory):
            readings((4, 1, 3, 2, 3, (), 1), ((0, 1), ()))

    def test_wrong_sets(self):
        for sets in (
            None, 0, "", [], {}, (1, 1), ((1,),), ((1, 1, 1),), ([1, 1],), ((0, 1),), ((9, 1),), ((-1, 1),), ((1, 0),),
            ((1, 2),), ((True, 1),), ((1, True),), ((1, None),), (("1", 1),), ((1, (1,)),), ((1, [1]),),
            ((1, 1), (1, 1)), ((1, 1), (6, 1)), ((7, 1), (1, 1)),
        ):
            with self.assertRaises(BadStory):
                readings(DAY, ((0, 2, 4, 6, 8), sets))
        with self.assertRaises(BadStory):
            readings(CALM, ((0, 1), ((1, 1),)))

    def test_rest_and_last_waking_are_edges(self):
        self.assertEqual(readings(DAY, ((0, 2, 4, 6, 8), ((1, 1), (7, 1)))), (0, 3, 1, 3, 2))
        self.assertEqual(readings(DAY, ((0, 2, 4, 6, 8), ((2, 1), (8, -1)))), (0, 3, 1, 3, 0))

    def test_no_pair(self):
        for story in ODD_VALUES + (((0,),), ((0,), (), ()), [(0,), ()]):
            with self.assertRaises(BadStory):
                readings(DAY, story)


if __name__ == "__main__":
    unittest.main()
