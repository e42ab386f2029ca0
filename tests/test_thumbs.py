"""Point 10: rules of thumb."""

import unittest
from itertools import combinations

from tests.helper import CALM, DAY, ODD_VALUES, fewest_until_wrong, small_almanacs, thumb_goes_wrong
from wrongclock.errors import BadAlmanac, BadReadings, TooMany
from wrongclock.keepers import good_thumbs, has_keeper, thumb_fails

THREE = (3, 0, 2, 1, 1, (), 1)


def thumbs_of(hours):
    return sorted(thumb for many in range(1, hours + 1) for thumb in combinations(range(hours), many))


class Thumbs(unittest.TestCase):
    def test_examples(self):
        self.assertEqual(good_thumbs(THREE), ((0,), (0, 1), (1,), (1, 2), (2,)))
        self.assertEqual(thumb_fails(THREE, (0, 1, 2)), ((0, 1, 2, 3, 4, 5), ()))

    def test_no_deed_behind_a_waking_at_which_the_clock_showed_one(self):
        # At hour 2 the clock shows one again, behind a waking at which it didn't.
        self.assertEqual(thumb_fails(THREE, (0, 2)), ((0, 1, 2), ()))
        # The second of two such wakings counts for the third one, though nothing was done at it.
        self.assertIsNone(thumb_fails((4, 1, 3, 1, 1, (), 1), (1, 2, 3)))
        self.assertEqual(thumb_fails((4, 0, 3, 1, 1, (), 1), (0, 1, 2, 3)), (tuple(range(8)), ()))

    def test_the_first_waking(self):
        self.assertIsNone(thumb_fails((4, 0, 3, 1, 1, (), 1), (0,)))
        self.assertIsNone(thumb_fails((4, 0, 0, 1, 1, (), 1), (0,)))
        self.assertEqual(thumb_fails((4, 1, 3, 1, 1, (), 1), (0,)), ((0,), ()))

    def test_against_all_stories(self):
        for almanac in small_almanacs()[::2]:
            most = 5 if almanac[4] == 1 else 4 if almanac[4] == 2 else 3
            good = good_thumbs(almanac)
            for thumb in thumbs_of(almanac[0])[::2]:
                many, bad = fewest_until_wrong(almanac, most, lambda told: thumb_goes_wrong(almanac, thumb, told))
                found = thumb_fails(almanac, thumb)
                self.assertIs(thumb in good, found is None)
                if many is None:
                    self.assertTrue(found is None or len(found[0]) > most)
                else:
                    self.assertIn(found, bad)

    def test_good_thumbs_ascend(self):
        for almanac in small_almanacs()[::3] + [(8, 0, 5, 4, 4, (), 2)]:
            good = good_thumbs(almanac)
            self.assertEqual(good, tuple(thumb for thumb in thumbs_of(almanac[0]) if thumb in good))
        self.assertEqual(len(good), 128)

    def test_no_good_thumb_without_a_keeper(self):
        for almanac in small_almanacs():
            if not has_keeper(almanac):
                self.assertEqual(good_thumbs(almanac), ())

    def test_settings(self):
        # Set on by an hour now and then, the clock may leave out what a thumb of one hour waits for.
        almanac = (4, 1, 3, 1, 1, (1,), 12)
        story = thumb_fails(almanac, (2,))
        self.assertEqual(thumb_goes_wrong(almanac, (2,), story), len(story[0]))
        self.assertTrue(story[1])
        self.assertIsNone(thumb_fails(almanac[:5] + ((), 12), (2,)))

    def test_more_than_60_wakings(self):
        # Set back each twelve hours, the clock leads him astray in the end, but not by sixty wakings.
        almanac = (12, 0, 10, 1, 1, (-1,), 12)
        with self.assertRaises(TooMany) as caught:
            thumb_fails(almanac, (0,))
        self.assertEqual(caught.exception.most, 60)

    def test_good_thumbs_count_failures_behind_60_wakings(self):
        almanac = (8, 0, 7, 1, 1, (-1,), 12)
        with self.assertRaises(TooMany):
            thumb_fails(almanac, (0,))
        self.assertNotIn((0,), good_thumbs(almanac))

    def test_too_many_thumbs(self):
        self.assertEqual(len(good_thumbs((8, 0, 7, 1, 1, (), 1))), 35)
        for hours in (9, 12):
            with self.assertRaises(TooMany) as caught:
                good_thumbs((hours, 0, hours - 1, 1, 1, (), 1))
            self.assertEqual(caught.exception.most, 255)
        self.assertIsNone(thumb_fails((12, 0, 11, 1, 1, (), 1), (11,)))

    def test_no_thumb(self):
        for thumb in ODD_VALUES + (
            (0, 0), (1, 0), (-1,), (4,), (0, 4), (0, "1"), (0, None), (0, True), (False,), (0, (1,)), [0, 1], {0: 1},
        ):
            with self.assertRaises(BadReadings):
                thumb_fails(CALM, thumb)
        self.assertEqual(thumb_fails(CALM, (3,)), ((0, 2), ()))
        self.assertEqual(thumb_fails(CALM, (0, 1, 2, 3)), ((0,), ()))

    def test_the_almanac_is_blamed_first(self):
        with self.assertRaises(BadAlmanac):
            thumb_fails(DAY[:6] + (0,), ())


if __name__ == "__main__":
    unittest.main()
