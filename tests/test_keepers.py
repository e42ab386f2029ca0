"""Points 7 to 9: tables, the keeper that waits as long as can be, and how far an almanac may go."""

import random
import unittest

from tests.helper import (
    CALM, DAY, ODD_VALUES, RARE, by_readings, fewest_until_wrong, first_wrong_waking, place_of, small_almanacs, stories,
)
from wrongclock.errors import BadAlmanac, BadTable, NoKeeper, TooMany
from wrongclock.keepers import bad_story, greatest_late, keeper, least_last, least_rest, shows_bad_story
from wrongclock.rules import rule
from wrongclock.twins import has_keeper, places

THREE = (3, 0, 2, 1, 1, (), 1)
IDLE = (((0, 0),) * 3,)
# Woken at each hour, a keeper can count the hours of the day and need not heed the clock.
COUNTED = (12, 0, 11, 1, 1, (1,), 12)
RANDOM = random.Random(7)


def counting_table(hours, many, right_for):
    """States that count the hours of days, in a ring; one deed at each day's last hour, up to an hour."""
    return tuple(
        (((state + 1) % many, 1 if state % hours == hours - 1 and state < right_for else 0),) * hours
        for state in range(many)
    )


def random_table(hours, states):
    entries = [None] + [(state, deeds) for state in range(states) for deeds in (0, 0, 0, 0, 1, 1, 2)]
    return tuple(tuple(RANDOM.choice(entries) for _ in range(hours)) for _ in range(states))


def spoilt(table):
    """A table with one entry changed."""
    state, reading = RANDOM.randrange(len(table)), RANDOM.randrange(len(table[0]))
    entry = RANDOM.choice([None, (RANDOM.randrange(len(table)), RANDOM.randrange(3))])
    row = table[state][:reading] + (entry,) + table[state][reading + 1:]
    return table[:state] + (row,) + table[state + 1:]


class Case(unittest.TestCase):
    def too_many(self, most, function, *arguments):
        with self.assertRaises(TooMany) as caught:
            function(*arguments)
        self.assertEqual(caught.exception.most, most)


class Tables(Case):
    def blamed(self, table, almanac=THREE):
        for function, more in ((bad_story, ()), (shows_bad_story, (None,))):
            with self.assertRaises(BadTable) as caught:
                function(almanac, table, *more)
        return caught.exception.index

    def test_no_tuple_of_so_many(self):
        for table in (None, True, 0, "", [], {}, (), list(IDLE), IDLE * 4001):
            self.assertIsNone(self.blamed(table))
        self.assertEqual(bad_story(THREE, IDLE * 4000), ((0, 1, 2), ()))

    def test_the_first_wrong_state(self):
        right = ((0, 0), (2, 30), None)
        for wrong in (
            None, True, 0, "abc", [(0, 0)] * 3, ((0, 0),) * 2, ((0, 0),) * 4, (), {0: None},
            (None, None, 0), (None, (0,), None), (None, None, (0, 0, 0)), ([0, 0], None, None), ((), None, None),
            ((4, 0), None, None), ((-1, 0), None, None), ((True, 0), None, None), (("0", 0), None, None),
            ((None, 0), None, None), ((0, 31), None, None), ((0, -1), None, None), ((0, False), None, None),
            ((0, None), None, None), ((0, "1"), None, None), (False, None, None), ("00", None, None),
        ):
            self.assertEqual(self.blamed((wrong, right, wrong)), 0)
            self.assertEqual(self.blamed((right, right, wrong, wrong)), 2)

    def test_edges_of_a_state(self):
        self.assertEqual(bad_story(THREE, (((1, 30), None, None), (None,) * 3)), ((0,), ()))
        self.assertEqual(bad_story(THREE, ((None,) * 3,)), ((0,), ()))
        self.assertEqual(self.blamed((((1, 0), None, None),)), 0)

    def test_the_almanac_is_blamed_first(self):
        for function, more in ((bad_story, ()), (shows_bad_story, (None,))):
            with self.assertRaises(BadAlmanac):
                function(DAY[:6] + (0,), None, *more)


class BadStories(Case):
    def test_examples(self):
        self.assertEqual(keeper(THREE), (
            ((1, 0), None, None), (None, (2, 0), None), (None, None, (3, 1)), ((1, 0), None, None),
        ))
        self.assertIsNone(bad_story(THREE, keeper(THREE)))
        self.assertIs(shows_bad_story(THREE, IDLE, ((0, 1, 2), ())), True)

    def test_each_way_to_fail(self):
        # A reading finds None; a deed too early; two deeds of which the second one is too early; one too few.
        self.assertEqual(bad_story(THREE, (((0, 1), None, (0, 0)),)), ((0, 1), ()))
        self.assertEqual(bad_story(CALM, (((0, 1), (0, 0), (0, 0), (0, 0)),)), ((0,), ()))
        self.assertEqual(bad_story(THREE, (((0, 2), (0, 0), (0, 0)),)), ((0,), ()))
        self.assertEqual(bad_story(THREE, IDLE), ((0, 1, 2), ()))
        self.assertIsNone(bad_story(THREE, (((0, 0), (0, 1), (0, 0)),)))
        self.assertIsNone(bad_story(THREE, (((0, 0), (0, 0), (0, 1)),)))

    def test_two_deeds_at_a_waking(self):
        # No two windows are open at an hour, so the second deed is done too early or the first one too late.
        for hour in range(4):
            wide = (3, hour % 3, hour % 3 + 2, 1, 1, (), 1)
            table = tuple(((state + 1, 2 if state == hour else 0),) * 3 for state in range(4)) + (((4, 0),) * 3,)
            self.assertEqual(bad_story(wide, table), (tuple(range(min(hour, hour % 3 + 2) + 1)), ()))

    def test_the_next_deed_at_the_waking_behind(self):
        # A window's last hour, and the next one's first hour.
        table = tuple(((state + 1, deeds),) * 3 for state, deeds in enumerate((0, 0, 0, 1, 1)))
        late_last = (3, 1, 3, 1, 1, (), 1)
        self.assertEqual(bad_story(late_last, table + (((5, 0),) * 3,)), ((0, 1, 2, 3, 4, 5, 6, 7, 8, 9), ()))
        self.assertEqual(bad_story((3, 1, 2, 1, 1, (), 1), table + (((5, 0),) * 3,)), ((0, 1, 2), ()))
        self.assertEqual(bad_story((3, 2, 4, 1, 1, (), 1), table + (((5, 0),) * 3,)), ((0, 1, 2, 3, 4), ()))

    def test_against_all_stories(self):
        for almanac in small_almanacs()[::3]:
            tables = [random_table(almanac[0], states) for states in (1, 1, 2, 3)]
            if has_keeper(almanac):
                tables += [keeper(almanac), spoilt(keeper(almanac)), spoilt(spoilt(keeper(almanac)))]
            for table in tables:
                most = 4 if almanac[4] < 3 else 3
                many, bad = fewest_until_wrong(almanac, most, lambda told: first_wrong_waking(almanac, table, told))
                found = bad_story(almanac, table)
                self.assertTrue(shows_bad_story(almanac, table, found))
                if many is None:
                    self.assertTrue(found is None or len(found[0]) > most)
                    continue
                self.assertIn(found, bad)
                self.assertFalse(shows_bad_story(almanac, table, None))
                for story in stories(almanac, many):
                    self.assertIs(shows_bad_story(almanac, table, story), story in bad)

    def test_a_story_with_more_wakings_is_not_shown(self):
        table = (((0, 0),) * 4,)
        self.assertEqual(len(bad_story(CALM, table)[0]), 2)
        self.assertTrue(shows_bad_story(CALM, table, ((0, 2), ())))
        for story in (((0, 1), ()), ((0, 1, 2), ()), ((0, 2, 3), ()), ((0,), ()), ((0, 2), ((1, 1),)), ((0, 3), ())):
            self.assertFalse(shows_bad_story(CALM, table, story))
        for value in ODD_VALUES + ([(0, 2), ()], ((0, 2),), ([0, 2], ()), ((0, 2), ()) * 2):
            self.assertFalse(shows_bad_story(CALM, table, value))

    def test_settings_that_mislead(self):
        # Only by the clock set on does the deed come too early.
        almanac = (4, 1, 3, 1, 1, (1,), 4)
        table = (((0, 0), (0, 1), (0, 0), (0, 0)),)
        self.assertIsNone(bad_story(almanac[:5] + ((), 4), table))
        story = bad_story(almanac, table)
        self.assertEqual(first_wrong_waking(almanac, table, story), len(story[0]))
        self.assertTrue(story[1])

    def test_nobody_is_right_without_a_keeper(self):
        for almanac in small_almanacs()[::5]:
            if not has_keeper(almanac):
                for states in (1, 3):
                    self.assertIsNotNone(bad_story(almanac, random_table(almanac[0], states)))


class TooManyWakings(Case):
    def test_sixty_wakings(self):
        # Deeds are missed at the last hour of a day, the 60th; the windows end there.
        for hours, right_for, many in ((2, 58, 60), (3, 57, 60), (12, 48, 60)):
            almanac = (hours, 0, hours - 1, 1, 1, (), 1)
            table = counting_table(hours, 240, right_for)
            story = (tuple(range(many)), ())
            self.assertEqual(bad_story(almanac, table), story)
            self.assertTrue(shows_bad_story(almanac, table, story))
            self.assertFalse(shows_bad_story(almanac, table, None))

    def test_more_than_sixty_wakings(self):
        # In the first case it is the 61st waking.
        for hours, first, right_for in ((2, 1, 58), (2, 0, 60), (12, 0, 60)):
            almanac = (hours, first, first + hours - 1, 1, 1, (), 1)
            table = counting_table(hours, 240, right_for)
            for value in (None, ((0,), ()), (tuple(range(61)), ())):
                self.too_many(60, shows_bad_story, almanac, table, value)
            self.too_many(60, bad_story, almanac, table)

    def test_40000(self):
        # 144 errors and waits for each state, but for those that come by the first days only.
        self.assertIsNone(bad_story(COUNTED, counting_table(12, 264, 264)))
        table = counting_table(12, 288, 288)
        self.too_many(40000, bad_story, COUNTED, table)
        for value in (None, ((0,), ()), 0):
            self.too_many(40000, shows_bad_story, COUNTED, table, value)
        with self.assertRaises(BadTable):
            bad_story(COUNTED, table[:-1])

    def test_40000_and_not_more(self):
        # Each of the states comes with each error, of which there are as many as hours.
        for hours, many, right in ((10, 4000, True), (12, 3324, True), (12, 3336, False)):
            almanac = (hours, 0, hours - 1, 1, 1, (1,), 1)
            table = counting_table(hours, many, many)
            if right:
                self.assertIsNone(bad_story(almanac, table))
            else:
                self.too_many(40000, bad_story, almanac, table)

    def test_60_comes_ahead_of_40000(self):
        # It fails on its way round, behind more than 40000 of what comes, and more than 60 wakings.
        table = counting_table(12, 3996, 3000)
        self.too_many(60, bad_story, COUNTED, table)


class Keepers(Case):
    def test_no_keeper(self):
        for almanac in small_almanacs() + [RARE, DAY]:
            if not has_keeper(almanac):
                with self.assertRaises(NoKeeper):
                    keeper(almanac)

    def test_states(self):
        # After the first waking, the state behind each reading is what may be then.
        for almanac in [one for one in small_almanacs() + [CALM] if has_keeper(one)]:
            table = keeper(almanac)
            self.assertIsNone(bad_story(almanac, table))
            may_be = {}
            for many in (1, 2, 3, 4) if almanac[4] < 3 else (1, 2, 3):
                for readings, alike in by_readings(almanac, many).items():
                    state, done = 0, 0
                    for reading in readings:
                        state, deeds = table[state][reading]
                        done += deeds
                    self.assertEqual(done, rule(almanac, readings))
                    ends = [(story[0][-1] - done * almanac[0], place_of(almanac, story, story)) for story in alike]
                    found = {(hour, place[2], place[4]) for hour, place in ends}
                    self.assertEqual(may_be.setdefault(state, found), found)
            self.assertNotIn(0, may_be)
            told = [sorted(found) for found in may_be.values()]
            self.assertTrue(all(told.count(found) == 1 for found in told))

    def test_none_for_readings_that_no_story_has(self):
        for almanac in [one for one in small_almanacs() + [CALM] if has_keeper(one)]:
            table = keeper(almanac)
            self.assertEqual([entry is None for entry in table[0]], [reading > 0 for reading in range(almanac[0])])
            longer = by_readings(almanac, 3)
            for readings in by_readings(almanac, 2):
                state = table[table[0][0][0]][readings[1]][0]
                for reading in range(almanac[0]):
                    self.assertEqual(table[state][reading] is not None, readings + (reading,) in longer)

    def test_numbers_of_the_states(self):
        for almanac in [one for one in small_almanacs() + [CALM] if has_keeper(one)]:
            table = keeper(almanac)
            come_to = [0]
            for row in table:
                for entry in row:
                    if entry is not None and entry[0] not in come_to:
                        come_to.append(entry[0])
            self.assertEqual(come_to, list(range(len(table))))

    def test_deeds_at_the_first_waking(self):
        almanac = (4, 0, 3, 4, 4, (), 1)
        self.assertEqual(keeper(almanac), (((1, 1), None, None, None), ((1, 1), None, None, None)))

    def test_too_many_states(self):
        self.assertEqual(len(keeper((11, 5, 15, 1, 3, (-8, 6), 12))), 3998)
        self.too_many(4000, keeper, (10, 2, 7, 3, 5, (-6, 7), 12))

    def test_no_keeper_though_there_are_too_many_places(self):
        for almanac in ((11, 6, 16, 5, 8, (-9, -8, -5, 3), 6), (12, 2, 12, 1, 2, (-11,), 11)):
            self.too_many(40000, places, almanac)
            with self.assertRaises(NoKeeper):
                keeper(almanac)


class HowFar(Case):
    def test_examples(self):
        self.assertEqual((greatest_late(THREE), least_last(THREE), least_rest(THREE)), (3, 0, 1))

    def test_against_each(self):
        for almanac in small_almanacs() + [(6, 0, 5, 1, 2, (-1,), 6), (5, 1, 4, 2, 2, (2,), 3)]:
            hours, first, last, soon, late, settings, rest = almanac
            for function, all_of, best in (
                (greatest_late, [(at, (hours, first, last, soon, at, settings, rest)) for at in range(soon, 25)], max),
                (least_rest, [(at, (hours, first, last, soon, late, settings, at)) for at in range(1, 13)], min),
                (least_last, [
                    (at, (hours, first, at, soon, late, settings, rest)) for at in range(first, first + hours)
                ], min),
            ):
                right = [at for at, other in all_of if has_keeper(other)]
                self.assertEqual(function(almanac), best(right) if right else None)

    def test_none(self):
        # With late above twice the hours of a day, two windows may go by.
        self.assertIsNone(greatest_late((4, 1, 3, 9, 9, (), 1)))
        self.assertIsNone(least_rest((4, 1, 3, 9, 9, (), 1)))
        self.assertIsNone(least_last((4, 1, 3, 9, 9, (), 1)))

    def test_own_late_rest_and_last_do_not_matter(self):
        for late in range(1, 25):
            self.assertEqual(greatest_late((3, 0, 2, 1, late, (), 1)), 3)
        for last in range(3):
            self.assertEqual(least_last((3, 0, last, 1, 1, (), 1)), 0)
        for rest in range(1, 13):
            self.assertEqual(least_rest((10, 3, 8, 2, 4, (4,), rest)), 4)

    def test_greatest_least_rest(self):
        for settings in ((-7,), ()):
            for rest in (1, 12):
                almanac = (12, 10, 21, 8, 12, settings, rest)
                self.assertEqual(least_rest(almanac), 12 if settings else 1)

    def test_edges(self):
        # Woken just once a day, at the same hour.
        self.assertEqual(least_last((12, 0, 5, 12, 12, (), 1)), 0)
        self.assertEqual(greatest_late((2, 0, 0, 2, 2, (), 1)), 2)
        self.assertEqual(least_last((4, 3, 3, 4, 4, (), 1)), 4)
        self.assertEqual(greatest_late((12, 5, 5, 1, 1, (), 1)), 1)

    def test_too_many_places(self):
        for function in (greatest_late, least_rest, least_last):
            with self.subTest(function.__name__):
                self.too_many(40000, function, (12, 2, 12, 1, 2, (-11,), 11))


if __name__ == "__main__":
    unittest.main()
