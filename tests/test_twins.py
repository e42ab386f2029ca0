"""Points 4, 5 and 6: conflicts, places, and whether some keeper is right."""

import unittest

from tests.helper import (
    CALM, ODD_VALUES, RARE, Case, is_clash, places_up_to, shortest_clash, shown, small_almanacs, stories,
)
from wrongclock.errors import BadAlmanac
from wrongclock.twins import conflict, has_keeper, places, shows_conflict, shows_places

# Its shortest conflicts have four wakings.
FOUR = (4, 1, 3, 1, 2, (-1, 1), 6)
# Each hour behind a start is another start: any tuple of its places is closed.
STILL = (2, 0, 1, 2, 2, (), 1)
# The fewest wakings of a conflict, and how many places come by then.
SIXTY = (12, 1, 11, 1, 2, (-11,), 11)
SIXTY_ONE = (12, 2, 12, 1, 2, (-11,), 11)
PLACES_39980 = (9, 7, 14, 3, 4, (-4, -2, -1), 8)
PLACES_40012 = (11, 6, 16, 5, 8, (-9, -8, -5, 3), 6)


class Conflicts(Case):
    def test_examples(self):
        self.assertEqual((has_keeper(CALM), conflict(CALM)), (True, None))
        self.assertEqual((has_keeper(RARE), conflict(RARE)), (False, (((0,), ()), ((0,), ()))))
        self.assertTrue(shows_conflict(RARE, (((0,), ()), ((0,), ()))))

    def assert_is_conflict(self, almanac, value, many):
        self.assertEqual(type(value), tuple)
        one, other = value
        for story in value:
            self.assertIn(story, stories(almanac, many))
        self.assertEqual(shown(almanac, one), shown(almanac, other))
        self.assertTrue(is_clash(almanac, one, other))

    def test_against_all_stories(self):
        lengths = set()
        for almanac in small_almanacs():
            many = shortest_clash(almanac, 3)
            value = conflict(almanac)
            if many is not None:
                self.assert_is_conflict(almanac, value, many)
                self.assertFalse(shows_conflict(almanac, None))
            elif value is not None:
                self.assertGreater(len(value[0][0]), 3)
            self.assertTrue(shows_conflict(almanac, value))
            self.assertEqual(has_keeper(almanac), value is None)
            lengths.add(many)
        self.assertEqual(lengths, {None, 1, 2, 3})

    def test_fewest_wakings(self):
        self.assertEqual(shortest_clash(FOUR, 4), 4)
        self.assert_is_conflict(FOUR, conflict(FOUR), 4)

    def test_what_shows_none(self):
        for value in ODD_VALUES + ((((0,), ()), ((0,), ())), conflict(FOUR)):
            self.assertIs(shows_conflict(CALM, value), value is None)

    def test_any_such_shows_a_conflict(self):
        almanac = (4, 0, 2, 1, 2, (-1,), 3)
        many = shortest_clash(almanac, 4)
        found = 0
        for one in stories(almanac, many):
            for other in stories(almanac, many):
                right = shown(almanac, one) == shown(almanac, other) and is_clash(almanac, one, other)
                self.assertIs(shows_conflict(almanac, (one, other)), right)
                found += right
        self.assertGreater(found, 1)

    def test_what_shows_no_conflict(self):
        one, other = conflict(FOUR)
        self.assertTrue(shows_conflict(FOUR, (one, other)))
        longer = [(wakings + (wakings[-1] + 2, wakings[-1] + 4), sets) for wakings, sets in (one, other)]
        self.assertEqual(shown(FOUR, longer[0]), shown(FOUR, longer[1]))
        self.assertTrue(is_clash(FOUR, *longer))
        for value in ODD_VALUES + (
            (one, one), (other, one), (one,), (one, other, other), [one, other], (one, list(other)), (one, None),
            (one, (other[0], None)), (one, ((), ())), ((one[0], ()), (other[0], ())), tuple(longer), ((0, 1), other),
            (one, (other[0], other[1] + ((other[0][-1] + 1, 1),))), {0: one, 1: other},
        ):
            self.assertIs(shows_conflict(FOUR, value), False)

    def test_too_many_wakings(self):
        for function, arguments in ((conflict, ()), (shows_conflict, (None,))):
            self.assertEqual(self.too_many(function, SIXTY_ONE, *arguments), 60)
            self.assertEqual(self.too_many(function, SIXTY, *arguments), 40000)
        for function in (has_keeper, places):
            self.assertEqual(self.too_many(function, SIXTY_ONE), 40000)

    def test_too_many_places(self):
        for function, arguments in ((conflict, ()), (shows_conflict, (None,)), (has_keeper, ()), (places, ())):
            self.assertEqual(self.too_many(function, PLACES_40012, *arguments), 40000)

    def test_nearly_too_many_places(self):
        self.assertEqual(len(conflict(PLACES_39980)[0][0]), 11)
        self.assertEqual((has_keeper(PLACES_39980), places(PLACES_39980)), (False, None))


class Places(Case):
    def test_examples(self):
        calm = tuple((hour, 0, 0, 0, 1, 1) for hour in range(4))
        self.assertEqual((places(CALM), shows_places(CALM, calm), places(RARE)), (calm, True, None))

    def test_against_all_stories(self):
        whole = 0
        for almanac in small_almanacs():
            found = places(almanac)
            if found is None:
                self.assertIsNotNone(conflict(almanac))
                continue
            self.assertEqual(found, tuple(sorted(set(found))))
            met = places_up_to(almanac, 3)
            self.assertLessEqual(met, set(found))
            self.assertTrue(shows_places(almanac, found))
            whole += len(met) == len(found)
        self.assertGreater(whole, 20)

    def test_waits_and_errors(self):
        almanac = (3, 0, 2, 1, 1, (1,), 2)
        self.assertEqual(set(places(almanac)), places_up_to(almanac, 8))
        self.assertEqual(
            {place[2:] for place in places(almanac)},
            {(error, error, wait, wait) for error in range(3) for wait in (1, 2)},
        )

    def test_ahead(self):
        almanac = (4, 0, 3, 1, 2, (), 1)
        self.assertEqual({place[1] for place in places(almanac)}, {0})
        skipping = (4, 0, 3, 1, 1, (-2, 2), 4)
        self.assertEqual(set(places(skipping)), places_up_to(skipping, 11))

    def test_each_place_is_needed(self):
        for almanac in (CALM, (3, 0, 2, 1, 1, (1,), 2), (6, 0, 5, 1, 2, (-3, 3), 2)):
            found = places(almanac)
            for at in range(len(found)):
                self.assertFalse(shows_places(almanac, found[:at] + found[at + 1:]))


class ShownPlaces(Case):
    def test_places_to_which_no_stories_lead(self):
        start = (0, 0, 0, 0, 1, 1)
        for place in (
            (0, 0, 1, 1, 1, 1), (1, 0, 0, 0, 1, 1), (0, -2, 0, 0, 1, 1), (0, -1, 0, 1, 1, 1), (0, -2, 1, 1, 1, 1),
        ):
            self.assertTrue(shows_places(STILL, tuple(sorted((start, place)))))
        self.assertTrue(shows_places(STILL, ((0, -10 ** 30, 0, 0, 1, 1), start)))

    def test_the_start_is_needed(self):
        for value in ((), ((1, 0, 0, 0, 1, 1),)):
            self.assertFalse(shows_places(STILL, value))

    def test_no_clash_at_any_place(self):
        start = (0, 0, 0, 0, 1, 1)
        self.assertFalse(shows_places(RARE, tuple((hour, 0, 0, 0, 1, 1) for hour in range(4))))
        # From 1 ahead on the first one's window may shut in time, though no stories lead there.
        for place, right in (
            ((0, 1, 0, 1, 1, 1), False), ((1, 1, 0, 1, 1, 1), True), ((0, 10 ** 30, 0, 0, 1, 1), False),
        ):
            self.assertIs(shows_places(STILL, (start, place)), right)

    def test_what_has_not_the_form_of_a_place(self):
        almanac = (4, 0, 3, 1, 1, (1,), 2)
        found = places(almanac)
        self.assertTrue(shows_places(almanac, found))
        for place in (
            None, (), 0, "", (0, 0, 0, 0, 1), (0, 0, 0, 0, 1, 1, 1), [9, 0, 0, 0, 1, 1], (9, 0, 0, 0, 1, 1),
            (4, 0, 0, 0, 1, 1), (4, -4, 0, 0, 1, 1), (3, 0, 3, 4, 2, 2), (3, -4, 3, 4, 2, 2), (3, 4, 4, 0, 2, 2),
            (3, 0, 3, 3, 2, 3), (3, 0, 3, 3, 3, 2), (3, 1, 3, 3, 2, 2), (3, 0, 3, 3, 2, "3"), ("4", 0, 3, 3, 2, 2),
        ):
            self.assertFalse(shows_places(almanac, found + (place,)))
        for place in (
            (-1, 0, 0, 0, 1, 1), (0, -4, -1, -1, 1, 1), (0, -4, 0, 0, 0, 1), (0, -4, 0, 0, 1, 0), (0, -5, 0, 0, 1, 1),
        ):
            self.assertFalse(shows_places(almanac, (place,) + found))

    def test_readings_alike_modulo_hours(self):
        for place, right in (((0, -1, 0, 1, 1, 1), True), ((0, -1, 1, 0, 1, 1), True), ((0, -1, 1, 1, 1, 1), False)):
            self.assertIs(shows_places(STILL, (place, (0, 0, 0, 0, 1, 1))), right)
        three = (3, 0, 2, 3, 3, (), 1)
        for place, right in (((0, -1, 0, 2, 1, 1), True), ((0, -1, 0, 1, 1, 1), False), ((0, -3, 0, 0, 1, 1), True)):
            self.assertIs(shows_places(three, (place, (0, 0, 0, 0, 1, 1))), right)

    def test_true_and_false_are_no_integers(self):
        almanac = (2, 0, 1, 1, 1, (), 1)
        found = places(almanac)
        self.assertEqual(found, ((0, 0, 0, 0, 1, 1), (1, 0, 0, 0, 1, 1)))
        for at in range(6):
            place = found[1]
            odd = place[:at] + (bool(place[at]),) + place[at + 1:]
            self.assertFalse(shows_places(almanac, (found[0], odd)))

    def test_ascending_tuple(self):
        found = places(CALM)
        for value in ODD_VALUES + (
            list(found), found[::-1], found + found[-1:], found[:1] + found, dict.fromkeys(found),
        ):
            self.assertFalse(shows_places(CALM, value))

    def test_each_waking_more_leads_into_it(self):
        almanac = (4, 0, 3, 1, 1, (1,), 2)
        found = places(almanac)
        more = tuple(sorted(found + ((0, -4, 0, 0, 1, 1),)))
        self.assertFalse(shows_places(almanac, more))
        behind = tuple((hour, ahead - 4, *others) for hour, ahead, *others in found)
        self.assertTrue(shows_places(almanac, tuple(sorted(found + behind))))

    def test_at_most_40000(self):
        many = tuple(sorted(
            (0, -behind, error, (error - behind) % 2, 1, 1) for behind in range(20000) for error in range(2)
        ))
        self.assertEqual(len(many), 40000)
        self.assertTrue(shows_places(STILL, many))
        self.assertFalse(shows_places(STILL, ((0, -20000, 0, 0, 1, 1),) + many))

    def test_not_too_many(self):
        for almanac in (SIXTY, SIXTY_ONE, PLACES_40012):
            for value in (None, ((0, 0, 0, 0, 1, 1),)):
                self.assertFalse(shows_places(almanac, value))


class Keepers(Case):
    def test_wrong_almanacs(self):
        for function in (conflict, has_keeper, places):
            with self.assertRaises(BadAlmanac) as caught:
                function((4, 4, 5, 1, 2, (), 1))
            self.assertEqual(caught.exception.part, "first")

    def test_a_setting_that_looks_like_an_hour(self):
        # Set back by an hour each day, the clock lets the keeper fall a day behind, unless it must be seen.
        self.assertFalse(has_keeper((6, 0, 5, 1, 2, (-1,), 6)))
        self.assertTrue(has_keeper((6, 0, 5, 1, 2, (-3, 3), 2)))
        self.assertTrue(has_keeper((6, 0, 5, 1, 2, (), 1)))


if __name__ == "__main__":
    unittest.main()
