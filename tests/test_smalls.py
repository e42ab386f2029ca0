"""Points 15 and 16: stories with few settings in which a keeper fails, and right tables with few states."""

import unittest
from heapq import heappop, heappush
from itertools import product

from tests.helper import CALM, DAY, ODD_VALUES, RARE, Case, first_wrong_waking, small_almanacs, stories
from wrongclock.errors import BadAlmanac, BadNumber, BadTable, NoKeeper
from wrongclock.keepers import bad_story, keeper
from wrongclock.smalls import cheapest_bad, fewest_states, shows_cheapest_bad, smallest

STILL = (3, 0, 2, 1, 1, (), 1)
IDLE = (((0, 0),) * 3,)
# One deed a day, at any hour; the clock can only be set on by half a day.
HALVES = (2, 0, 1, 1, 1, (1,), 6)

# Keepers that are right if the clock is set more rarely, with rest 12, fail here only with several settings.
LATE = ((4, 0, 2, 1, 2, (-2, 2), 4), (4, 0, 2, 1, 2, (-2,), 1), (2, 1, 1, 1, 1, (-1, 1), 4), (2, 0, 1, 1, 1, (-1, 1), 5))
# One setting makes the keeper fail at the second waking, but he fails at the third one without any.
DEAR = ((3, 0, 2, 1, 2, (1,), 1), (((0, 1), (0, 0), (0, 0)),))
# One setting, of two kinds and at two hours, makes the keeper fail at the third waking.
PLAIN = ((5, 0, 3, 1, 1, (-2, 3), 1), (((0, 1),) + ((0, 0),) * 4,))


def alternating(many, hours=2):
    """A table whose states come one behind the other and round, with a deed at each so many wakings."""
    return tuple((((at + 1) % many, 1 if at % hours == 0 else 0),) * hours for at in range(many))


def ending(many):
    """A table that fails at the waking with this number, for it expects no reading then."""
    return alternating(many + 1)[:many - 1] + ((None, None),)


def mingling(many):
    """A table whose state tells the hour and mingles the readings; it fails if it is not set until this waking."""
    rows = [
        [((hour + 1) % 12 * 331 + (3 * mixed + reading + 1) % 331, 1 if hour == 0 else 0) for reading in range(12)]
        for hour in range(12) for mixed in range(331)
    ]
    state = 0
    for hour in range(many - 1):
        state = rows[state][hour % 12][0]
    rows[state][(many - 1) % 12] = None
    return tuple(tuple(row) for row in rows)


def woken(almanac, table, hour, error, state):
    """What a waking leads to: hour less hours times the deeds done, and the next state; None if he fails."""
    hours, first, last, _, late = almanac[:5]
    entry = table[state][(hour + error) % hours]
    if entry is None or any(not first <= hour - deed * hours <= last for deed in range(entry[1])):
        return None
    # The deeds are numbered from the next one on; all before it are done.
    if entry[1] * hours + last < hour + late:
        return None
    return hour - hours * entry[1], entry[0]


def least_cost(almanac, table):
    """How many settings, and then wakings, it takes until he fails, hour by hour; None if he never does."""
    hours, soon, late, settings, rest = almanac[0], *almanac[3:]
    begun = woken(almanac, table, 0, 0, 0)
    if begun is None:
        return (0, 1)
    queue, met = [(0, 1, begun[0], 0, 1, begun[1], 0)], set()
    while queue:
        times, wakings, hour, error, wait, state, since = heappop(queue)
        if (hour, error, wait, state, since) in met:
            continue
        met.add((hour, error, wait, state, since))
        if since >= soon:
            now = woken(almanac, table, hour, error, state)
            if now is None:
                return (times, wakings + 1)
            heappush(queue, (times, wakings + 1, now[0], error, wait, now[1], 0))
        if since < late:
            heappush(queue, (times, wakings, hour + 1, error, max(1, wait - 1), state, since + 1))
            for setting in settings if wait == 1 else ():
                heappush(queue, (times + 1, wakings, hour + 1, (error + setting) % hours, rest, state, since + 1))
    return None


def tables_for(almanac):
    """Tables that are right, nearly right, and wrong."""
    hours = almanac[0]
    rows = [[((state + 1) % 3, (state + reading) % 3 // 2) for reading in range(hours)] for state in range(3)]
    found = [(((0, 0),) * hours,), (((0, 1),) + ((0, 0),) * (hours - 1),), tuple(tuple(row) for row in rows)]
    for rest in (almanac[6], 12):
        try:
            table = keeper(almanac[:6] + (rest,))
        except NoKeeper:
            continue
        found += [table, table[:-1] + (((0, 0),) * hours,)]
    return found


class Cheapest(Case):
    def test_examples(self):
        self.assertIsNone(cheapest_bad(STILL, (((0, 0), (0, 1), (0, 0)),)))
        self.assertEqual(cheapest_bad(STILL, IDLE), ((0, 1, 2), ()))
        self.assertIs(shows_cheapest_bad(STILL, IDLE, ((0, 1, 2), ())), True)

    def assert_is_cheapest(self, almanac, table, value, cost):
        wakings, sets = value
        self.assertEqual((len(sets), len(wakings)), cost)
        self.assertEqual(first_wrong_waking(almanac, table, value), len(wakings))
        self.assertTrue(all(almanac[3] <= later - hour <= almanac[4] for hour, later in zip(wakings, wakings[1:])))
        self.assertTrue(all(1 <= hour <= wakings[-1] and setting in almanac[5] for hour, setting in sets))
        self.assertTrue(all(later[0] - one[0] >= almanac[6] for one, later in zip(sets, sets[1:])))
        self.assertEqual((wakings[0], type(wakings), type(sets)), (0, tuple, tuple))

    def test_against_all_stories_hour_by_hour(self):
        costs = {}
        for almanac in small_almanacs()[::2]:
            for table in tables_for(almanac):
                cost = least_cost(almanac, table)
                value = cheapest_bad(almanac, table)
                if cost is None:
                    self.assertIsNone(value)
                    self.assertIsNone(bad_story(almanac, table))
                else:
                    self.assert_is_cheapest(almanac, table, value, cost)
                    self.assertFalse(shows_cheapest_bad(almanac, table, None))
                self.assertTrue(shows_cheapest_bad(almanac, table, value))
                costs[cost] = True
        self.assertTrue({None, (0, 1), (0, 2), (0, 3), (1, 2), (1, 3), (2, 3)} <= set(costs), costs)

    def test_tables_that_fail_late(self):
        costs = []
        for almanac in LATE:
            table = keeper(almanac[:6] + (12,))
            value = cheapest_bad(almanac, table)
            costs.append((len(value[1]), len(value[0])))
            self.assertEqual(costs[-1], least_cost(almanac, table))
            self.assert_is_cheapest(almanac, table, value, costs[-1])
            self.assertTrue(shows_cheapest_bad(almanac, table, value))
        self.assertEqual(costs, [(2, 4), (2, 3), (2, 6), (2, 7)])

    def test_several_settings(self):
        # Right while the clock is at most two hours fast.
        table = tuple(
            tuple(((at + 1) % 5, 1 if at % 2 == 0 else 0) if (reading - 3 * at) % 5 <= 2 else None for reading in range(5))
            for at in range(5)
        )
        for rest, settings, cost in (
            (1, (1,), (3, 2)), (2, (1,), (3, 3)), (3, (1,), (3, 4)), (5, (1,), (3, 5)), (1, (1, 2), (2, 2)),
            (2, (1, 2), (2, 2)), (3, (1, 2), (2, 3)), (12, (1, 2), (2, 6)), (1, (3,), (1, 2)), (1, (-1, 2), (1, 2)),
        ):
            almanac = (5, 0, 4, 3, 3, settings, rest)
            self.assertEqual(least_cost(almanac, table), cost)
            value = cheapest_bad(almanac, table)
            self.assert_is_cheapest(almanac, table, value, cost)
            self.assertTrue(shows_cheapest_bad(almanac, table, value))

    def test_few_settings_count_ahead_of_few_wakings(self):
        almanac, table = DEAR
        short = bad_story(almanac, table)
        value = cheapest_bad(almanac, table)
        self.assertEqual((len(short[1]), len(short[0])), (1, 2))
        self.assertEqual((len(value[1]), len(value[0])), least_cost(almanac, table))
        self.assertLess(len(value[1]), len(short[1]))
        self.assertGreater(len(value[0]), len(short[0]))
        self.assertFalse(shows_cheapest_bad(almanac, table, short))

    def test_what_shows_it(self):
        almanac, table = PLAIN
        cost = least_cost(almanac, table)
        self.assertEqual(cost, (1, 3))
        met = {True: 0, False: 0}
        for story in [story for many in (1, 2, 3, 4) for story in stories(almanac, many)]:
            right = (len(story[1]), len(story[0])) == cost and first_wrong_waking(almanac, table, story) == cost[1]
            self.assertIs(shows_cheapest_bad(almanac, table, story), right)
            met[right] += 1
        self.assertTrue(met[True] > 1 and met[False] > 1)

    def test_any_value_may_be_shown(self):
        right = (((0, 0), (0, 1), (0, 0)),)
        for value in ODD_VALUES + (((0, 1, 2), ()), [(0, 1, 2), ()], ((0, 1), ()), ((0, 1, 2),), ((0, True, 2), ())):
            self.assertIs(shows_cheapest_bad(STILL, right, value), value is None)
            self.assertIs(shows_cheapest_bad(STILL, IDLE, value), value == ((0, 1, 2), ()) and value[0][1] is not True)

    def test_wrong_arguments(self):
        for table, index in ((None, None), ((), None), (IDLE * 4001, None), (((0, 0),) * 3, 0), (IDLE + (None,), 1)):
            with self.assertRaises(BadTable) as caught:
                cheapest_bad(STILL, table)
            self.assertEqual(caught.exception.index, index)
            with self.assertRaises(BadTable) as caught:
                shows_cheapest_bad(STILL, table, None)
            self.assertEqual(caught.exception.index, index)
        with self.assertRaises(BadAlmanac):
            cheapest_bad(STILL[:6], None)
        with self.assertRaises(BadAlmanac):
            shows_cheapest_bad(STILL[:6], None, None)

    def test_sixty_wakings(self):
        # The clock may be set, but needn't be.
        for many in (59, 60):
            value = cheapest_bad(HALVES, ending(many))
            self.assertEqual(value, (tuple(range(many)), ()))
            self.assertTrue(shows_cheapest_bad(HALVES, ending(many), value))
        for many in (61, 200):
            self.assertEqual(self.too_many(cheapest_bad, HALVES, ending(many)), 60)
            self.assertEqual(self.too_many(shows_cheapest_bad, HALVES, ending(many), None), 60)

    def test_many_wakings_though_few_would_do(self):
        # With a setting he may fail at the second waking, without one at the sixtieth or behind.
        for many in (60, 61):
            table = ending(many)
            table = (((1, 1), None), ((2, 0), (2, 0))) + table[2:]
            late = table[:1] + ((None, (2, 0)),) + table[2:]
            self.assertEqual(len(bad_story(HALVES, late)[0]), 2)
            if many == 60:
                self.assertEqual(cheapest_bad(HALVES, late), (tuple(range(60)), ()))
            else:
                self.assertEqual(self.too_many(cheapest_bad, HALVES, late), 60)

    def test_what_comes(self):
        # 12 errors and waits with each state, but for those that come only with the first settings.
        self.assertIsNone(cheapest_bad(HALVES, alternating(3332)))
        self.assertIs(shows_cheapest_bad(HALVES, alternating(3332), None), True)
        self.assertEqual(self.too_many(cheapest_bad, HALVES, alternating(3334)), 40000)
        self.assertEqual(self.too_many(shows_cheapest_bad, HALVES, alternating(3334), None), 40000)

    def test_what_comes_by_as_many_wakings(self):
        # Without a setting he never fails; with one he does at the third waking, while much comes behind it.
        table = alternating(3400)
        table = table[:2] + ((table[2][0], None),) + table[3:]
        value = cheapest_bad(HALVES, table)
        self.assertEqual((len(value[1]), len(value[0])), (1, 3))
        # He fails at this waking without any setting; more than 40000 come by the later one.
        for many in (15, 50):
            almanac, table = (12, 0, 11, 1, 1, (1,), 1), mingling(many)
            if many == 15:
                self.assertEqual(cheapest_bad(almanac, table), (tuple(range(15)), ()))
            else:
                self.assertEqual(self.too_many(cheapest_bad, almanac, table), 40000)

    def test_too_many_wakings_come_ahead(self):
        self.assertEqual(self.too_many(cheapest_bad, HALVES, ending(3900)), 60)


class Fewest(Case):
    def test_examples(self):
        self.assertEqual(fewest_states(STILL, 2), 1)
        self.assertIsNone(fewest_states((3, 0, 0, 1, 2, (), 1), 2))
        with self.assertRaises(BadNumber):
            smallest(STILL, 3)

    def is_right(self, almanac, table):
        return bad_story(almanac, table) is None

    def assert_is_small(self, almanac, table, most):
        self.assertTrue(isinstance(table, tuple) and 1 <= len(table) <= most)
        self.assertTrue(self.is_right(almanac, table))
        for state, row in enumerate(table):
            for reading, entry in enumerate(row):
                if entry is not None:
                    fewer = table[:state] + (row[:reading] + (None,) + row[reading + 1:],) + table[state + 1:]
                    self.assertFalse(self.is_right(almanac, fewer))

    def small_days(self):
        """Almanacs with two hours and settings of all kinds."""
        return [
            (2, first, last, soon, soon + more, settings, rest)
            for first, last in ((0, 0), (0, 1), (1, 2)) for soon, more in ((1, 0), (1, 1), (2, 0))
            for settings in ((), (1,)) for rest in (1, 3)
        ]

    def test_against_all_tables(self):
        met = set()
        entries = [None] + [(state, deeds) for state in (0, 1) for deeds in (0, 1)]
        two = [((one, other), (third, fourth)) for one, other, third, fourth in product(entries, repeat=4)]
        for almanac in self.small_days():
            fewest = None
            if any(self.is_right(almanac, (row,)) for row in product([None, (0, 0), (0, 1), (0, 2)], repeat=2)):
                fewest = 1
            elif any(self.is_right(almanac, table) for table in two):
                fewest = 2
            for most in (1, 2):
                table = smallest(almanac, most)
                if fewest is None or fewest > most:
                    self.assertIsNone(table)
                    self.assertIsNone(fewest_states(almanac, most))
                else:
                    self.assert_is_small(almanac, table, most)
                    self.assertEqual((len(table), fewest_states(almanac, most)), (fewest, fewest))
            met.add(fewest)
        self.assertEqual(met, {None, 1, 2})

    def test_days_of_three_and_four_hours(self):
        met = set()
        for almanac in small_almanacs():
            if almanac[0] > 4:
                continue
            rows = product([None, (0, 0), (0, 1)], repeat=almanac[0])
            alone = any(self.is_right(almanac, (row,)) for row in rows)
            self.assertEqual(smallest(almanac, 1) is not None, alone)
            table = smallest(almanac, 2)
            met.add(fewest_states(almanac, 2))
            if table is not None:
                self.assert_is_small(almanac, table, 2)
                self.assertEqual(len(table) == 1, alone)
                keeper(almanac)
        self.assertEqual(met, {None, 1, 2})

    def test_none_without_a_keeper(self):
        self.assertEqual([smallest(almanac, most) for almanac in (RARE, DAY) for most in (1, 2)], [None] * 4)

    def test_too_many_hours(self):
        fewest_states((4, 0, 3, 1, 1, (), 1), 2)
        for hours in (5, 12):
            for most in (1, 2):
                for function in (smallest, fewest_states):
                    self.assertEqual(self.too_many(function, (hours, 0, 1, 1, 1, (), 1), most), 4)

    def test_wrong_arguments(self):
        for function in (smallest, fewest_states):
            for most in ODD_VALUES + (0, 3, -1, 2.0, (1,), "1"):
                for almanac in (STILL, CALM, (5, 0, 1, 1, 1, (), 1)):
                    with self.assertRaises(BadNumber, msg=most):
                        function(almanac, most)
            with self.assertRaises(BadAlmanac):
                function(STILL[:6] + (0,), None)


if __name__ == "__main__":
    unittest.main()
