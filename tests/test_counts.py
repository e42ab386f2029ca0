"""Points 41 and 42: counts and chances."""

import random
import unittest
from fractions import Fraction
from math import gcd

from tests.helper import CALM, DAY, ODD_VALUES, by_readings, first_wrong_waking, small_almanacs, stories
from wrongclock.counts import count_readings, count_stories, count_with, fail_chance, reading_chance
from wrongclock.errors import BadAlmanac, BadNumber, BadReadings, BadTable, NoKeeper, TooMany
from wrongclock.keepers import keeper

RANDOM = random.Random(42)
# Almanacs with few enough stories, but more than one setting in a gap.
BUSY = ((3, 0, 2, 1, 2, (-1, 1, 2), 1), (4, 1, 3, 2, 3, (-1, 2), 2), (5, 2, 4, 3, 4, (1,), 3), (2, 0, 1, 1, 3, (1,), 2))
IDLE = (((0, 0),) * 4,)
NO_WAKINGS = ODD_VALUES + (0, -1, 61, "1", (1,), 10 ** 9)


def chance_of(almanac, chance, story):
    """The chance of a story among those with as many wakings."""
    soon, late, settings, rest = almanac[3:]
    sets = dict(story[1])
    result = Fraction(1, late - soon + 1) ** (len(story[0]) - 1)
    free = 1
    for hour in range(1, story[0][-1] + 1):
        if hour in sets:
            result *= Fraction(*chance) / len(settings)
            free = hour + rest
        elif hour >= free and settings:
            result *= 1 - Fraction(*chance)
    return result


class Case(unittest.TestCase):
    def is_chance(self, value, expected):
        self.assertIs(type(value), tuple)
        top, bottom = value
        self.assertEqual((gcd(top, bottom), bottom > 0), (1, True))
        self.assertEqual(Fraction(top, bottom), expected)


class Counts(Case):
    def test_against_all_stories(self):
        for almanac in small_almanacs() + list(BUSY):
            for many in (1, 2, 3):
                told = by_readings(almanac, many)
                self.assertEqual(count_stories(almanac, many), sum(len(alike) for alike in told.values()))
                self.assertEqual(count_readings(almanac, many), len(told))
                for readings, alike in told.items():
                    self.assertEqual(count_with(almanac, readings), len(alike))

    def test_more_wakings(self):
        for almanac in (DAY, (3, 0, 2, 1, 2, (1,), 2), (4, 0, 3, 2, 2, (-1,), 3)):
            for many in (4, 5):
                told = by_readings(almanac, many)
                self.assertEqual(count_stories(almanac, many), sum(len(alike) for alike in told.values()))
                self.assertEqual(count_readings(almanac, many), len(told))
                self.assertEqual(sum(count_with(almanac, readings) for readings in told), count_stories(almanac, many))

    def test_one_waking(self):
        for almanac in (DAY, CALM) + BUSY:
            self.assertEqual((count_stories(almanac, 1), count_readings(almanac, 1)), (1, 1))
            self.assertEqual(count_with(almanac, (0,)), 1)

    def test_sixty_wakings(self):
        self.assertEqual((count_stories(CALM, 60), count_readings(CALM, 60)), (2 ** 59, 2 ** 59))
        self.assertEqual(count_with(CALM, tuple(hour % 4 for hour in range(60))), 1)
        often = (5, 0, 4, 1, 1, (-1, 1), 1)
        self.assertEqual((count_stories(often, 60), count_readings(often, 60)), (3 ** 59, 3 ** 59))

    def test_readings_that_no_story_has(self):
        for readings in ((1,), (3,), (0, 3, 3), (1, 2), (0, 1, 1, 1, 1), (0, 3) * 30, (3,) * 60):
            self.assertEqual(count_with(CALM, readings), 0)
        self.assertEqual(count_with(DAY, (0, 2)), 2)

    def test_wrong_numbers(self):
        for function in (count_stories, count_readings):
            for wakings in NO_WAKINGS:
                with self.assertRaises(BadNumber):
                    function(DAY, wakings)
            with self.assertRaises(BadAlmanac):
                function(DAY[:6] + (0,), 0)

    def test_wrong_readings(self):
        for readings in ODD_VALUES + ((0, 4), (-1,), (0,) * 61, (0, None), (0, False), [0, 1], (0, "1")):
            with self.assertRaises(BadReadings):
                count_with(DAY, readings)
            with self.assertRaises(BadReadings):
                reading_chance(DAY, (1, 2), readings)
        with self.assertRaises(BadAlmanac):
            count_with(DAY[:6] + (0,), ())

    def test_too_many_sets(self):
        # 18478 sets at the eighth waking and 22496 at the ninth; 19783 at the eleventh and 20157 at the twelfth.
        for almanac, most in (((12, 0, 11, 1, 8, (-11,), 12), 8), ((11, 0, 10, 1, 5, (-9, 1, 4), 12), 11)):
            self.assertGreater(count_readings(almanac, most), count_readings(almanac, most - 1))
            for wakings in (most + 1, 60):
                with self.assertRaises(TooMany) as caught:
                    count_readings(almanac, wakings)
                self.assertEqual(caught.exception.most, 20000)
                self.assertGreater(count_stories(almanac, wakings), 5 ** (wakings - 1))
            self.assertGreater(count_with(almanac, tuple(range(10)) * 6), 0)
            with self.assertRaises(BadNumber):
                count_readings(almanac, 61)

    def test_many_sets_but_not_too_many(self):
        self.assertGreater(count_readings((10, 0, 9, 1, 4, (-9,), 12), 60), 4 ** 59)


class ReadingChances(Case):
    def test_against_all_stories(self):
        for almanac in small_almanacs()[::3] + list(BUSY):
            for chance in ((0, 1), (1, 3), (7, 10), (1000, 1000)):
                for many in (1, 2, 3):
                    whole = 0
                    for readings, alike in by_readings(almanac, many).items():
                        expected = sum(chance_of(almanac, chance, story) for story in alike)
                        self.is_chance(reading_chance(almanac, chance, readings), expected)
                        whole += expected
                    self.assertEqual(whole, 1)

    def test_lowest_terms(self):
        self.assertEqual(reading_chance(DAY, (1, 2), (0,)), (1, 1))
        self.assertEqual(reading_chance(DAY, (1, 2), (1,)), (0, 1))
        self.assertEqual(reading_chance(CALM, (1, 2), (0, 3)), (0, 1))
        self.assertEqual(reading_chance(CALM, (3, 7), (0, 1, 3)), (1, 4))
        self.assertEqual(reading_chance((4, 1, 3, 1, 1, (1,), 1), (2, 6), (0, 1)), (2, 3))
        self.assertEqual(reading_chance((4, 1, 3, 1, 1, (1,), 1), (1, 3), (0, 2)), (1, 3))
        self.assertEqual(reading_chance((4, 1, 3, 1, 1, (-1, 1), 2), (1, 1), (0, 2, 3)), (1, 2))

    def test_sixty_readings(self):
        self.assertEqual(reading_chance((4, 1, 3, 1, 1, (1,), 1), (1, 1000), (0, 2) * 30), (1, 1000 ** 59))

    def test_no_settings(self):
        for chance in ((0, 1), (1, 1), (999, 1000)):
            self.assertEqual(reading_chance(CALM, chance, (0, 1, 2)), (1, 4))

    def test_wrong_chances(self):
        for chance in ODD_VALUES + (
            (1, 0), (0, 0), (-1, 2), (3, 2), (1, 1001), (1001, 1001), (1,), (1, 2, 3), [1, 2], (True, 2), (0, True),
            (1, None), ("1", 2), (1, "2"), ((1,), 2), (1, -1),
        ):
            with self.assertRaises(BadNumber):
                reading_chance(DAY, chance, (0,))
            with self.assertRaises(BadNumber):
                fail_chance(DAY, chance, IDLE, 1)
        for chance in ((0, 1), (1, 1), (0, 1000), (1000, 1000)):
            self.assertEqual(reading_chance(DAY, chance, (0,)), (1, 1))

    def test_the_leftmost_argument_is_blamed(self):
        with self.assertRaises(BadAlmanac):
            reading_chance(DAY[:6] + (0,), (2, 1), ())
        with self.assertRaises(BadNumber):
            reading_chance(DAY, (2, 1), ())


class FailChances(Case):
    def table_for(self, almanac, states):
        entries = [None] + [(state, deeds) for state in range(states) for deeds in (0, 0, 0, 1)]
        return tuple(tuple(RANDOM.choice(entries) for _ in range(almanac[0])) for _ in range(states))

    def test_against_all_stories(self):
        for almanac in small_almanacs()[::4] + list(BUSY):
            tables = [self.table_for(almanac, 2), self.table_for(almanac, 3)]
            try:
                tables.append(keeper(almanac))
            except NoKeeper:
                pass
            for table in tables:
                for chance in ((0, 1), (2, 5), (1, 1)):
                    for many in (1, 2, 3):
                        expected = sum(
                            chance_of(almanac, chance, story) for story in stories(almanac, many)
                            if first_wrong_waking(almanac, table, story) is not None
                        )
                        self.is_chance(fail_chance(almanac, chance, table, many), expected)

    def test_certain_and_never(self):
        missing, idle = (3, 0, 2, 1, 1, (), 1), (((0, 0),) * 3,)
        kept = (5, 1, 4, 2, 2, (2,), 3)
        for wakings in range(1, 13):
            self.assertEqual(fail_chance(missing, (1, 2), idle, wakings), (int(wakings > 2), 1))
            self.assertEqual(fail_chance(kept, (1, 2), keeper(kept), wakings), (0, 1))

    def test_failing_once_is_enough(self):
        # What goes wrong at the second waking counts by the twelfth, whatever comes behind it.
        table = (((1, 0),) * 4, (None, (2, 0), None, (2, 1)), ((2, 0),) * 4)
        almanac = (4, 0, 3, 1, 2, (), 1)
        self.assertEqual(fail_chance(almanac, (0, 1), table, 1), (0, 1))
        self.assertEqual(fail_chance(almanac, (0, 1), table, 2), (1, 2))
        self.assertEqual(fail_chance(almanac, (0, 1), table, 12), (1, 1))

    def test_wrong_numbers(self):
        for wakings in ODD_VALUES + (0, -1, 13, "1"):
            with self.assertRaises(BadNumber):
                fail_chance(DAY, (1, 2), IDLE, wakings)

    def test_wrong_tables(self):
        for table, index in ((None, None), ((), None), (((0, 0),) * 4, 0), (IDLE[0:1] + (None,), 1)):
            with self.assertRaises(BadTable) as caught:
                fail_chance(DAY, (1, 2), table, 0)
            self.assertEqual(caught.exception.index, index)

    def test_the_leftmost_argument_is_blamed(self):
        with self.assertRaises(BadAlmanac):
            fail_chance(DAY[:6] + (0,), None, None, None)
        with self.assertRaises(BadNumber):
            fail_chance(DAY, (2, 1), None, 1)


if __name__ == "__main__":
    unittest.main()
