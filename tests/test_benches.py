"""Point 11: the bench."""

import random
import unittest

from tests.helper import DAY, shown, small_almanacs, stories
from wrongclock.benches import Bench
from wrongclock.errors import BadAlmanac, BadStep

RANDOM = random.Random(11)


def state_of(bench):
    return (bench.hour, bench.shown, bench.done, bench.harm)


class Benches(unittest.TestCase):
    def refused(self, bench, step, *arguments):
        before = state_of(bench)
        with self.assertRaises(BadStep):
            step(*arguments)
        self.assertEqual(state_of(bench), before)

    def test_examples(self):
        bench = Bench(DAY)
        self.assertEqual(
            [bench.pass_hour(1), bench.shown, bench.wake(), bench.do(), bench.pass_hour(None), bench.hour, bench.done,
             bench.harm],
            [None, 2, 2, None, None, 2, (1,), ()],
        )
        with self.assertRaises(BadStep):
            Bench(DAY).wake()

    def test_methods_and_properties_of_the_class_itself(self):
        for name in ("pass_hour", "wake", "do"):
            self.assertTrue(callable(vars(Bench)[name]))
        for name in ("hour", "shown", "done", "harm"):
            self.assertIsInstance(vars(Bench)[name], property)

    def test_at_first(self):
        bench = Bench(DAY)
        self.assertEqual(state_of(bench), (0, 0, (), ()))
        bench.do()
        self.assertEqual(state_of(bench), (0, 0, (0,), (0,)))

    def test_no_almanac(self):
        for wrong, part in ((None, "almanac"), (DAY[:6] + (0,), "rest"), (DAY[:4] + (0,) + DAY[5:], "late")):
            with self.assertRaises(BadAlmanac) as caught:
                Bench(wrong)
            self.assertEqual(caught.exception.part, part)

    def test_stories_on_the_bench(self):
        for almanac in small_almanacs()[::2]:
            for story in RANDOM.choices(stories(almanac, 3), k=2):
                bench = Bench(almanac)
                sets = dict(story[1])
                seen = [bench.shown]
                while bench.hour < story[0][-1]:
                    bench.pass_hour(sets.get(bench.hour + 1))
                    if bench.hour in story[0]:
                        seen.append(bench.wake())
                self.assertEqual(tuple(seen), shown(almanac, story))

    def test_soon_and_late(self):
        bench = Bench((4, 1, 3, 2, 3, (1,), 1))
        self.refused(bench, bench.wake)
        bench.pass_hour(None)
        self.refused(bench, bench.wake)
        bench.pass_hour(None)
        self.assertEqual(bench.wake(), 2)
        self.refused(bench, bench.wake)
        for _ in range(3):
            bench.pass_hour(None)
        for setting in (None, 1):
            self.refused(bench, bench.pass_hour, setting)
        self.assertEqual(bench.wake(), 1)
        self.assertIsNone(bench.pass_hour(None))
        self.assertEqual(bench.hour, 6)

    def test_rest(self):
        for rest in (1, 2, 5, 12):
            bench = Bench((5, 1, 4, 1, 24, (-2, 1), rest))
            self.assertIsNone(bench.pass_hour(-2))
            for _ in range(rest - 1):
                for setting in (-2, 1):
                    self.refused(bench, bench.pass_hour, setting)
                bench.pass_hour(None)
            bench.pass_hour(1)
            self.assertEqual((bench.hour, bench.shown), (rest + 1, rest % 5))

    def test_rest_goes_on_behind_wakings(self):
        bench = Bench((5, 1, 4, 1, 2, (1,), 3))
        bench.pass_hour(1)
        bench.wake()
        self.refused(bench, bench.pass_hour, 1)
        bench.pass_hour(None)
        bench.wake()
        self.refused(bench, bench.pass_hour, 1)
        bench.pass_hour(None)
        bench.wake()
        self.assertIsNone(bench.pass_hour(1))

    def test_no_such_setting(self):
        bench = Bench(DAY)
        for setting in (0, 2, -2, 5, True, False, "", "1", (), (1,), [], [1], {}, {1: 1}):
            self.refused(bench, bench.pass_hour, setting)
        silent = Bench(DAY[:5] + ((), 1))
        for setting in (1, -1, 0, True):
            self.refused(silent, silent.pass_hour, setting)
        self.assertIsNone(bench.pass_hour(-1))

    def test_deeds_at_wakings_only(self):
        bench = Bench(DAY)
        bench.pass_hour(None)
        self.refused(bench, bench.do)
        bench.wake()
        self.assertIsNone(bench.do())
        self.assertIsNone(bench.do())
        self.assertEqual(bench.done, (1, 1))
        bench.pass_hour(None)
        self.refused(bench, bench.do)

    def test_harm_of_deeds_outside_their_windows(self):
        bench = Bench((4, 1, 2, 1, 1, (), 1))
        bench.do()
        self.assertEqual(bench.harm, (0,))
        for hour in range(1, 12):
            bench.pass_hour(None)
            bench.wake()
            if hour in (5, 10):
                bench.do()
            self.assertEqual(bench.harm, (0,))
        bench.do()
        self.assertEqual((bench.done, bench.harm), ((0, 5, 10, 11), (0, 3)))

    def test_harm_of_windows_that_are_over(self):
        bench = Bench((4, 1, 2, 1, 1, (), 1))
        harm = []
        for _ in range(12):
            bench.pass_hour(None)
            bench.wake()
            harm.append(bench.harm)
        self.assertEqual(harm, [()] * 2 + [(0,)] * 4 + [(0, 1)] * 4 + [(0, 1, 2)] * 2)
        for _ in range(4):
            bench.do()
        self.assertEqual(bench.harm, (0, 1, 2, 3))

    def test_harm_edges(self):
        for hour, harm in ((0, (0,)), (1, ()), (2, ()), (3, ()), (4, (0,))):
            bench = Bench((4, 1, 3, 1, 1, (), 1))
            for _ in range(hour):
                bench.pass_hour(None)
                bench.wake()
            bench.do()
            self.assertEqual(bench.harm, harm)

    def test_harm_against_the_windows(self):
        for almanac in small_almanacs()[::2]:
            hours, first, last = almanac[:3]
            bench = Bench(almanac)
            deeds = []
            for hour in range(1, 20):
                bench.pass_hour(None)
                if hour % almanac[4] == 0:
                    bench.wake()
                    for _ in range(RANDOM.choice((0, 0, 1, 1, 2))):
                        bench.do()
                        deeds.append(hour)
                self.assertEqual(bench.done, tuple(deeds))
                outside = [
                    day for day, at in enumerate(deeds) if at not in range(day * hours + first, day * hours + last + 1)
                ]
                over = [day for day in range(len(deeds), 30) if day * hours + last < hour]
                self.assertEqual(bench.harm, tuple(outside + over))

    def test_a_window_that_ends_on_the_next_day(self):
        bench = Bench((4, 3, 6, 1, 1, (), 1))
        for _ in range(6):
            bench.pass_hour(None)
            bench.wake()
        self.assertEqual(bench.harm, ())
        bench.pass_hour(None)
        self.assertEqual(bench.harm, (0,))

    def test_tuples_do_not_change_later(self):
        bench = Bench(DAY)
        done, harm = bench.done, bench.harm
        bench.do()
        self.assertEqual((done, harm), ((), ()))

    def test_properties_are_not_assigned(self):
        for name in ("hour", "shown", "done", "harm"):
            with self.assertRaises(AttributeError):
                setattr(Bench(DAY), name, 0)

    def test_two_benches(self):
        one, other = Bench(DAY), Bench(DAY)
        one.do()
        one.pass_hour(1)
        self.assertEqual(state_of(other), (0, 0, (), ()))

    def test_many_hours(self):
        bench = Bench((7, 2, 5, 1, 24, (-3,), 5))
        for hour in range(1, 2001):
            if hour % 5 == 0:
                bench.pass_hour(-3)
            else:
                bench.pass_hour(None)
            bench.wake()
        self.assertEqual((bench.hour, bench.shown, len(bench.harm)), (2000, (2000 - 3 * 400) % 7, 285))


if __name__ == "__main__":
    unittest.main()
