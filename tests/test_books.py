"""Points 12 and 13: books of deeds, and what a keeper's log tells of his deeds."""

import unittest

from tests.helper import (
    CALM, DAY, ODD_VALUES, RARE, Case, by_readings, places_met, places_walked, shown, small_almanacs, states_of,
    stories,
)
from wrongclock.books import book_conflict, book_rule, due, judged
from wrongclock.errors import BadAlmanac, BadBook, BadHour, BadReadings
from wrongclock.pairs import Walk
from wrongclock.rules import rule
from wrongclock.scenes import entry_scene
from wrongclock.twins import conflict

BOOK = ((1, 3, 1, 0), (0, 2, 2, 1))
# Books for almanacs with two hours or more.
BOOKS = (
    ((0, 1, 1, 0),), ((1, 2, 2, 0),), ((0, 1, 2, 1), (1, 1, 3, 0)), ((0, 0, 4, 3),), ((1, 1, 1, 0), (1, 1, 4, 2)),
    ((1, 2, 3, 2), (0, 1, 3, 1), (0, 1, 3, 0)), ((0, 1, 4, 1), (0, 0, 2, 1), (1, 2, 4, 0), (1, 2, 3, 1)),
)
WRONG_BOOKS = tuple((value, None if value == () or not isinstance(value, tuple) else 0) for value in ODD_VALUES) + (
    ((None,), 0), ((True,), 0), (((0,),), 0), ((1, 3, 1, 0), 0), ([(1, 3, 1, 0)], None), (BOOK * 3, None),
    (((1, 3, 5, 0),), 0), (((1, 3, 0, 0),), 0), (((1, 3, 1, 1),), 0), (((1, 3, 4, 4),), 0), (((1, 3, 2, -1),), 0),
    (((-1, 2, 1, 0),), 0), (((4, 5, 1, 0),), 0), (((1, 0, 1, 0),), 0), (((1, 5, 1, 0),), 0), (((1, 3, 1),), 0),
    (((1, 3, 1, 0, 0),), 0), (((True, 3, 1, 0),), 0), (((1, 3, True, 0),), 0), (((1, 3, 1, False),), 0),
    (((1, "3", 1, 0),), 0), (((1, 3, None, 0),), 0), (((1, 3, 1, (0,)),), 0), (([1, 3, 1, 0],), 0),
    (BOOK + (None,), 2), (BOOK + (None, (4, 5, 1, 0)), 2), (((1, 3, 1, 0), (1, 5, 1, 0), None), 1),
    (BOOK * 2 + (None,), None),
)
WRONG_LOGS = ODD_VALUES + (
    [(0, 0)], ((0, 0, 0),), ([0, 0],), ((0, -1),), ((0, 31),), ((-1, 0),), ((4, 0),), ((False, 0),), ((0, False),),
    ((0, None),), (("0", 0),), ((0, 0), None), ((0, 0), (2,)), ((0, 0),) * 61, ((0, 0), (2, 31)), ((0, 0), (4, 0)),
    # No story has these readings.
    ((1, 0),), ((3, 0),), ((0, 0), (2, 0), (2, 0), (2, 0)), ((0, 0), (0, 0), (0, 0)),
)
STUCK = (6, 2, 7, 1, 4, (-3,), 12)
# Its wakings can be at many hours, each with a deed that may be done wrongly or not.
LOOSE = (4, 2, 3, 2, 4, (2, 3), 4)


def days_of(almanac, entry, end):
    """The first and last hours of the windows of an entry that begin by an hour or soon behind it."""
    hours = almanac[0]
    first, last, every, start = entry
    return [(day * hours + first, day * hours + last) for day in range(end + 1) if day % every == start]


def urgent_of(almanac, entry, hour):
    return len([last for _, last in days_of(almanac, entry, hour + almanac[4]) if last < hour + almanac[4]])


def opened_of(almanac, entry, hour):
    return len([first for first, _ in days_of(almanac, entry, hour) if first <= hour])


def is_clash_of(almanac, entry, one, other):
    return urgent_of(almanac, entry, one[0][-1]) > opened_of(almanac, entry, other[0][-1])


def shortest_clash_of(almanac, book, most):
    """The fewest wakings of a conflict of an entry, up to most, and the first such entry, else None."""
    for many in range(1, most + 1):
        groups = [states_of(almanac, alike) for alike in by_readings(almanac, many).values()]
        for index, entry in enumerate(book):
            if any(is_clash_of(almanac, entry, one, other) for ends in groups for one in ends for other in ends):
                return many, index
    return None


def harm_of(almanac, log, story):
    """The deeds done outside their windows or missed in a story."""
    hours, first, last = almanac[:3]
    done, harm = 0, set()
    for hour, (_, deeds) in zip(story[0], log):
        for deed in range(done, done + deeds):
            if not deed * hours + first <= hour <= deed * hours + last:
                harm.add(deed)
        done += deeds
    return harm | {deed for deed in range(done, hour + 1) if deed * hours + last < hour}


class Dues(Case):
    def test_examples(self):
        self.assertEqual(due(DAY, BOOK, 6), (2, 1))
        with self.assertRaises(BadBook) as caught:
            due(DAY, ((1, 3, 5, 0),), 6)
        self.assertEqual(caught.exception.index, 0)

    def test_against_each_day(self):
        for almanac in small_almanacs()[::5]:
            for book in BOOKS:
                if all(entry[1] < entry[0] + almanac[0] for entry in book):
                    for hour in range(0, 40, 3):
                        dues = tuple(urgent_of(almanac, entry, hour) for entry in book)
                        self.assertEqual(due(almanac, book, hour), dues)

    def test_edges(self):
        # The window of a second day may end on the third one.
        dues = [due(CALM, ((3, 6, 2, 1),), hour) for hour in (0, 8, 9, 16, 17)]
        self.assertEqual(dues, [(0,), (0,), (1,), (1,), (2,)])
        self.assertEqual(due(CALM, ((1, 3, 1, 0),), 10 ** 9), (250000000,))
        self.assertEqual(due(CALM, ((1, 3, 4, 0),), 10 ** 9), (62500000,))
        for hour in (-1, 10 ** 9 + 1, True, None, "6", (6,)):
            with self.assertRaises(BadHour):
                due(DAY, BOOK, hour)

    def test_wrong_books(self):
        for book, index in WRONG_BOOKS:
            for function, *more in ((due, -1), (book_conflict,), (book_rule, None)):
                with self.assertRaises(BadBook, msg=book) as caught:
                    function(DAY, book, *more)
                self.assertEqual(caught.exception.index, index, book)
        for book in (BOOK * 2, ((0, 3, 4, 3),), ((3, 6, 4, 0),), ((3, 3, 1, 0),)):
            self.assertEqual(len(due(DAY, book, 0)), len(book))

    def test_the_leftmost_argument_is_blamed(self):
        for function in (due, book_rule):
            with self.assertRaises(BadAlmanac):
                function(DAY[:6], None, None)
            with self.assertRaises(BadBook):
                function(DAY, (), None)
        with self.assertRaises(BadAlmanac):
            book_conflict(DAY[:6] + (13,), None)
        with self.assertRaises(BadAlmanac):
            judged(DAY[:6] + (13,), None)


class Conflicts(Case):
    def test_examples(self):
        self.assertIsNone(book_conflict(CALM, BOOK))

    def assert_is_conflict(self, almanac, book, value, many):
        index, (one, other) = value
        for story in (one, other):
            self.assertIn(story, stories(almanac, many))
        self.assertEqual(shown(almanac, one), shown(almanac, other))
        self.assertTrue(is_clash_of(almanac, book[index], one, other))

    def test_against_all_stories(self):
        met = set()
        for at, almanac in enumerate(small_almanacs()):
            book = BOOKS[at % len(BOOKS)]
            least = shortest_clash_of(almanac, book, 3)
            value = book_conflict(almanac, book)
            if least is not None:
                self.assertEqual((type(value), value[0]), (tuple, least[1]))
                self.assert_is_conflict(almanac, book, value, least[0])
            elif value is not None:
                self.assertGreater(len(value[1][0][0]), 3)
            met.add(least)
        self.assertTrue({None, (1, 0), (2, 0), (2, 1), (3, 0)} <= met, met)

    def test_fewest_wakings_then_the_least_index(self):
        # The shortest conflict is that of the window of a single hour.
        wide, single = (1, 3, 1, 0), (1, 1, 1, 0)
        self.assertEqual(book_conflict(DAY, (wide,))[0], 0)
        self.assertEqual(book_conflict(DAY, (wide, single, single)), (1, book_conflict(DAY, (single,))[1]))
        self.assertEqual(len(book_conflict(DAY, (wide, wide))[1][0][0]), len(conflict(DAY)[0][0]))
        self.assertEqual(book_conflict(DAY, (wide, wide))[0], 0)

    def test_a_single_entry_for_each_day_is_point_4(self):
        for almanac in small_almanacs()[::3]:
            value = book_conflict(almanac, ((almanac[1], almanac[2], 1, 0),))
            twin = conflict(almanac)
            self.assertEqual(value is None, twin is None)
            if twin is not None:
                self.assertEqual(len(value[1][0][0]), len(twin[0][0]))

    def test_the_window_of_the_almanac_does_not_matter(self):
        self.assertIsNotNone(conflict(RARE))
        self.assertIsNone(book_conflict(RARE, BOOK))

    def test_days_are_told_apart(self):
        # The shortest conflict comes the later, the later the first deed's day is, but for a deed that is open at once.
        slow = (2, 0, 1, 1, 2, (1,), 3)
        lengths = []
        for start in range(4):
            value = book_conflict(slow, ((0, 1, 4, start),))
            many = len(value[1][0][0])
            self.assertEqual(shortest_clash_of(slow, ((0, 1, 4, start),), many), (many, 0))
            lengths.append(many)
        self.assertEqual(lengths, [5, 2, 3, 4])

    def test_places_against_all_stories(self):
        for at, almanac in enumerate(small_almanacs()[::9]):
            entry = BOOKS[at % len(BOOKS)][0]
            period = almanac[0] * entry[2]
            least = shortest_clash_of(almanac, (entry,), 3)
            most = 3 if least is None else least[0]
            groups = [alike for many in range(1, most + 1) for alike in by_readings(almanac, many).values()]
            walk = Walk(entry_scene(almanac, entry), True)
            self.assertEqual(places_walked(walk, most), places_met(almanac, groups, period))

    def test_limits(self):
        # 39962 places come by 14 wakings, 40002 by 11; 39688 and 40320 where there is no conflict.
        self.assertEqual(len(book_conflict((7, 1, 5, 2, 4, (1,), 10), ((0, 5, 4, 3),))[1][0][0]), 14)
        self.assertEqual(self.too_many(book_conflict, (9, 6, 14, 3, 5, (-1,), 8), ((8, 16, 3, 1),)), 40000)
        self.assertIsNone(book_conflict((11, 0, 9, 3, 5, (-7,), 12), ((8, 17, 4, 3),)))
        almanac, entry = (12, 5, 15, 2, 4, (7,), 12), (0, 10, 4, 3)
        self.assertEqual(self.too_many(book_conflict, almanac, (entry,)), 40000)
        # An entry with too many is told even if another one has a short conflict.
        single = (0, 0, 1, 0)
        self.assertIsNotNone(book_conflict(almanac, (single,)))
        for book in ((single, entry), (entry, single)):
            self.assertEqual(self.too_many(book_conflict, almanac, book), 40000)

    def test_too_many_places_are_told_ahead_of_too_many_wakings(self):
        # The shortest conflict has 61 wakings.
        self.assertEqual(self.too_many(book_conflict, (12, 9, 19, 1, 2, (-7, -5, 8), 11), ((4, 13, 2, 1),)), 40000)


class Rules(Case):
    def test_examples(self):
        self.assertEqual(book_rule(DAY, ((1, 3, 1, 0),), (0, 2)), (1,))

    def test_against_all_stories(self):
        for at, almanac in enumerate(small_almanacs()[::7]):
            book = BOOKS[at % len(BOOKS)]
            groups = [by_readings(almanac, many) for many in (1, 2, 3)]
            for readings in [readings for group in groups for readings in group]:
                alike = [story for many in range(len(readings)) for story in groups[many][readings[:many + 1]]]
                done = tuple(max(urgent_of(almanac, entry, story[0][-1]) for story in alike) for entry in book)
                self.assertEqual(book_rule(almanac, book, readings), done)

    def test_a_beginning_may_decide(self):
        # By (0, 1) it may be hour 4, but the clock can't show 0 at the next waking then.
        book = ((2, 7, 1, 0), (2, 7, 2, 0), (2, 7, 2, 1))
        self.assertEqual([due(STUCK, book, hour) for hour in (3, 4)], [(0, 0, 0), (1, 1, 0)])
        self.assertEqual(book_rule(STUCK, book, (0,)), (0, 0, 0))
        self.assertEqual([book_rule(STUCK, book, readings) for readings in ((0, 1), (0, 1, 0))], [(1, 1, 0)] * 2)

    def test_a_single_entry_for_each_day_is_point_6(self):
        for readings in by_readings(DAY, 4):
            self.assertEqual(book_rule(DAY, ((1, 3, 1, 0), (1, 3, 1, 0)), readings), (rule(DAY, readings),) * 2)

    def test_wrong_readings(self):
        for readings in ODD_VALUES + ((1,), (4,), (False,), [0, 2], (0, 0, 0), [0], (0,) * 61, (0, None)):
            with self.assertRaises(BadReadings):
                book_rule(DAY, BOOK, readings)


class Logs(Case):
    def test_examples(self):
        self.assertEqual(judged(DAY, ((0, 0), (2, 1))), (True, True, ()))
        self.assertEqual(judged(DAY, ((0, 1),)), (False, False, (0,)))
        self.assertEqual(judged(CALM, ((0, 0), (2, 0), (0, 0))), (False, False, (0,)))

    def test_against_all_stories(self):
        met = {}
        for at, almanac in enumerate(small_almanacs()[::3]):
            for many in (1, 2, 3):
                for number, (readings, alike) in enumerate(by_readings(almanac, many).items()):
                    deeds = [(at + number * 2 + place * 5) % 7 % 4 % 3 for place in range(many)]
                    log = tuple(zip(readings, deeds))
                    harms = [harm_of(almanac, log, story) for story in alike]
                    harmed = tuple(sorted(set.intersection(*harms)))
                    answer = judged(almanac, log)
                    self.assertEqual(answer, (set() in harms, not any(harms), harmed))
                    self.assertTrue(answer[0] is (set() in harms) and answer[1] is not any(harms))
                    met[answer[:2] + (bool(harmed),)] = True
        self.assertEqual(len(met), 4)

    def test_harm_in_all_stories_but_of_no_deed_in_all(self):
        almanac, log = (3, 0, 1, 1, 2, (1,), 4), ((0, 0), (2, 1), (0, 1))
        harms = [harm_of(almanac, log, story) for story in by_readings(almanac, 3)[0, 2, 0]]
        self.assertIn({0}, harms)
        self.assertIn({1}, harms)
        self.assertEqual(judged(almanac, log), (False, False, ()))

    def test_windows_at_the_edge(self):
        still = (4, 1, 3, 1, 1, (), 1)
        for hour, right in ((0, False), (1, True), (2, True), (3, True)):
            log = tuple((reading, 0) for reading in range(hour)) + ((hour, 1),)
            self.assertEqual(judged(still, log), (right, right, () if right else (0,)))
        # Missed from hour 4 on, harmed only once if it is done then.
        log = tuple((reading, 0) for reading in range(4))
        self.assertEqual(judged(still, log), (True, True, ()))
        self.assertEqual(judged(still, log + ((0, 0),)), (False, False, (0,)))
        self.assertEqual(judged(still, log + ((0, 1),)), (False, False, (0,)))
        self.assertEqual(judged(still, log + ((0, 2), (1, 0))), (False, False, (0, 1)))
        self.assertEqual(judged(still, ((0, 30),)), (False, False, tuple(range(30))))

    def test_long_logs(self):
        still = (4, 1, 3, 1, 1, (), 1)
        log = tuple((hour % 4, 1 if hour % 4 == 2 else 0) for hour in range(60))
        self.assertEqual(judged(still, log), (True, True, ()))
        self.assertEqual(judged(still, tuple((hour % 4, 0) for hour in range(60))), (False, False, tuple(range(14))))
        self.assertEqual(judged(still, tuple((hour % 4, 30) for hour in range(60)))[2], tuple(range(1800)))

    def test_wrong_logs(self):
        for log in WRONG_LOGS:
            with self.assertRaises(BadReadings, msg=log):
                judged(DAY, log)
        judged(DAY, ((0, 30),))

    def test_too_many(self):
        log = self.loose_log(18)
        self.assertLessEqual(self.kept_behind(log[:17]), 40000)
        self.assertGreater(self.kept_behind(log), 40000)
        self.assertEqual(len(judged(LOOSE, log[:17])), 3)
        self.assertEqual(self.too_many(judged, LOOSE, log), 40000)
        self.assertEqual(self.too_many(judged, LOOSE, self.loose_log(60)), 40000)

    def test_too_many_is_ahead_of_bad_readings(self):
        # Six times on by one hour: no story has that, with gaps of two to four hours and settings that rare.
        for many in (17, 18):
            log = self.loose_log(many)
            log = log + tuple(((log[-1][0] + more) % 4, 0) for more in range(1, 7))
            if many == 17:
                with self.assertRaises(BadReadings):
                    judged(LOOSE, log)
            else:
                self.assertEqual(self.too_many(judged, LOOSE, log), 40000)
        with self.assertRaises(BadReadings):
            judged(LOOSE, self.loose_log(20) + (None,))

    def loose_log(self, many):
        """A log with many possible hours; three of four wakings have a deed."""
        return tuple((2 * at % 4, 0 if at % 4 == 0 else 1) for at in range(many))

    def kept_behind(self, log):
        """How many hours, errors and waits with unlike deeds done wrongly there are behind the last waking."""
        kept = {(0, 0, 1, frozenset())}
        done = log[0][1]
        for reading, deeds in log[1:]:
            later = set()
            now = kept
            for gap in range(1, LOOSE[4] + 1):
                now = {story for before in now for story in self.hour_later(*before)}
                if gap >= LOOSE[3]:
                    later |= {story for story in now if (story[0] + story[1]) % LOOSE[0] == reading}
            kept = {story[:3] + (story[3] | self.wrong_at(story[0], done, deeds),) for story in later}
            done += deeds
        return len(kept)

    def hour_later(self, hour, error, wait, wrong):
        """What can be an hour later."""
        found = [(hour + 1, error, max(1, wait - 1), wrong)]
        for setting in LOOSE[5] if wait == 1 else ():
            found.append((hour + 1, (error + setting) % LOOSE[0], LOOSE[6], wrong))
        return found

    def wrong_at(self, hour, done, deeds):
        """Which of the next deeds are wrong to do at an hour."""
        hours, first, last = LOOSE[:3]
        return frozenset(deed for deed in range(done, done + deeds) if not first <= hour - deed * hours <= last)


if __name__ == "__main__":
    unittest.main()
