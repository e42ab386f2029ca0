"""Point 43: what signs tell, conflicts of stories seen alike, and the lots of signs that help."""

import unittest
from itertools import combinations
from math import lcm

from tests.helper import (
    CALM, DAY, ODD_VALUES, RARE, Case, by_sight, is_clash, places_met, places_walked, seen, small_almanacs, states_of,
    stories,
)
from wrongclock.errors import BadAlmanac, BadSigns, BadStory
from wrongclock.pairs import Walk
from wrongclock.scenes import signed_scene
from wrongclock.signs import helping_lots, shows_signed_conflict, signed_conflict, signed_readings
from wrongclock.twins import conflict

TOLD = (("told",),)
# Signs of all kinds for almanacs with two hours or more, with others and alone.
LOTS = (
    (), TOLD, (("second", 2),), (("second", 7),), (("sun", 0, 0),), (("bell", 1),), (("second", 2), ("second", 3)),
    (("bell", 0), ("told",)), (("bell", 0), ("second", 3), ("sun", 1, 1)), (("second", 2), ("sun", 0, 1), ("told",)),
)
WRONG_SIGNS = ODD_VALUES + (
    list(TOLD), ("told",), (["told"],), (("told", 0),), (("tell",),), (("sun",),), (("sun", 0),), (("sun", 0, 1, 2),),
    (("sun", 0, 4),), (("sun", -1, 2),), (("sun", 2, 1),), (("sun", False, 1),), (("sun", 0, True),),
    (("sun", 0, "1"),),
    (("second",),), (("second", 1),), (("second", 13),), (("second", True),), (("second", 2, 2),), (("second", None),),
    (("bell",),), (("bell", 4),), (("bell", -1),), (("bell", False),), (("bell", 0, 1),), (("bell", (0,)),),
    (("told",), ("told",)), (("told",), ("bell", 0)), (("second", 3), ("second", 2)), (("sun", 0, 2), ("sun", 0, 1)),
    (("bell", 0), ("bell", 1), ("bell", 2), ("bell", 3)), (("bell", 0), ("bell", 1), ("bell", 2), None),
    ((),), ((), ("told",)), ((["sun"], 0, 1),), (({}, 0, 1),), (("SUN", 0, 1),), ("sun", 0, 1), (("sun", 0, 1), None),
)
LONG = (3, 0, 2, 1, 5, (1,), 2)
# Their shortest conflicts have 58 and 62 wakings.
FIFTY_EIGHT = (12, 9, 19, 1, 2, (-7, -5, 8), 11)
SIXTY_TWO = (12, 0, 11, 1, 2, (-1, 7, 10), 10)


def all_kinds():
    """Almanacs of all kinds, each with some signs."""
    return [(almanac, LOTS[at % len(LOTS)]) for at, almanac in enumerate(small_almanacs())]


def fewest_wakings(almanac, signs, most):
    """The fewest wakings of a conflict of stories seen alike, up to most, else None."""
    for many in range(1, most + 1):
        for alike in by_sight(almanac, signs, many).values():
            ends = states_of(almanac, alike)
            if any(is_clash(almanac, one, other) for one in ends for other in ends):
                return many
    return None


class Sights(Case):
    def test_each_kind(self):
        story = ((0, 2, 3, 5), ((2, 1),))
        self.assertEqual(signed_readings(DAY, (), story), ((0,), (3,), (0,), (2,)))
        self.assertEqual(signed_readings(DAY, (("sun", 1, 2),), story), ((0, 0), (3, 1), (0, 0), (2, 1)))
        self.assertEqual(signed_readings(DAY, (("sun", 0, 0),), story), ((0, 1), (3, 0), (0, 0), (2, 0)))
        self.assertEqual(signed_readings(DAY, (("second", 3),), story), ((0, 0), (3, 2), (0, 0), (2, 2)))
        self.assertEqual(signed_readings(DAY, (("bell", 0),), story), ((0, 0), (3, 0), (0, 0), (2, 1)))
        self.assertEqual(signed_readings(DAY, (("bell", 2),), story), ((0, 0), (3, 1), (0, 0), (2, 0)))
        self.assertEqual(signed_readings(DAY, TOLD, story), ((0, 0), (3, 1), (0, 0), (2, 0)))

    def test_several(self):
        signs = (("bell", 1), ("second", 12), ("told",))
        fast = (4, 1, 3, 2, 9, (-1, 1), 1)
        story = ((0, 9, 11), ((1, 1), (2, 1), (9, -1), (11, 1)))
        self.assertEqual(signed_readings(fast, signs, story), ((0, 0, 0, 0), (2, 1, 9, 3), (1, 0, 11, 1)))

    def test_against_all_stories(self):
        for almanac, signs in all_kinds():
            for story in stories(almanac, 3):
                self.assertEqual(signed_readings(almanac, signs, story), seen(almanac, signs, story))

    def test_wrong_signs(self):
        for signs in WRONG_SIGNS:
            if signs == ():
                continue
            for call in (signed_conflict, helping_lots):
                with self.assertRaises(BadSigns, msg=signs):
                    call(DAY, signs)
            for call in (signed_readings, shows_signed_conflict):
                with self.assertRaises(BadSigns, msg=signs):
                    call(DAY, signs, None)

    def test_signs_at_the_edge(self):
        story = ((0,), ())
        for sign in (("sun", 0, 3), ("sun", 3, 3), ("second", 2), ("second", 12), ("bell", 0), ("bell", 3), ("told",)):
            signed_readings(DAY, (sign,), story)
        signed_readings(DAY, (("sun", 0, 1), ("sun", 0, 2), ("sun", 1, 1)), story)
        signed_readings(DAY, (("second", 3), ("sun", 0, 0), ("told",)), story)

    def test_the_leftmost_argument_is_blamed(self):
        with self.assertRaises(BadAlmanac):
            signed_readings(DAY[:6], None, None)
        with self.assertRaises(BadSigns):
            signed_readings(DAY, (("sun", 0, 4),), None)
        with self.assertRaises(BadStory):
            signed_readings(DAY, (("sun", 0, 3),), ((0, 3), ()))
        for signs in ((("sun", 0, 12),), (("told", 1),)):
            with self.assertRaises(BadSigns):
                signed_conflict(SIXTY_TWO, signs)


class Conflicts(Case):
    def assert_is_conflict(self, almanac, signs, value, many):
        self.assertEqual(type(value), tuple)
        one, other = value
        for story in value:
            self.assertIn(story, stories(almanac, many))
        self.assertEqual(seen(almanac, signs, one), seen(almanac, signs, other))
        self.assertTrue(is_clash(almanac, one, other))

    def test_against_all_stories(self):
        lengths = {}
        for almanac, signs in all_kinds():
            many = fewest_wakings(almanac, signs, 3)
            value = signed_conflict(almanac, signs)
            if many is not None:
                self.assert_is_conflict(almanac, signs, value, many)
                self.assertFalse(shows_signed_conflict(almanac, signs, None))
            elif value is not None:
                self.assertGreater(len(value[0][0]), 3)
            self.assertTrue(shows_signed_conflict(almanac, signs, value))
            lengths.setdefault(many, []).append(signs)
        self.assertEqual(set(lengths), {None, 1, 2, 3})

    def test_each_kind_changes_it(self):
        self.assertEqual(signed_conflict(DAY, ())[0][0], conflict(DAY)[0][0])
        for signs in (TOLD, (("second", 5),), (("sun", 0, 1),), (("bell", 1),)):
            self.assertIsNone(signed_conflict(DAY, signs))
        for signs in ((("bell", 3),), (("sun", 0, 2),), (("sun", 3, 3),)):
            self.assert_is_conflict(DAY, signs, signed_conflict(DAY, signs), fewest_wakings(DAY, signs, 4))
        self.assertEqual(len(signed_conflict(DAY, (("sun", 1, 3),))[0][0]), 7)

    def test_what_second_clocks_tell(self):
        # Behind three wakings of 3 + 2 hours and of 1 + 2 hours the clock and a second one of two hours show the same.
        drifting = (4, 0, 3, 1, 3, (-2, 2), 1)
        value = signed_conflict(drifting, (("second", 2),))
        self.assert_is_conflict(drifting, (("second", 2),), value, fewest_wakings(drifting, (("second", 2),), 3))
        self.assertEqual(len(value[0][0]), 3)
        for hours in (3, 5, 9):
            self.assertIsNone(signed_conflict(drifting, (("second", hours),)))

    def test_without_signs_it_is_that_of_point_4(self):
        for almanac in small_almanacs()[::3]:
            value = conflict(almanac)
            self.assertTrue(shows_signed_conflict(almanac, (), value))
            self.assertEqual(signed_conflict(almanac, ()) is None, value is None)

    def test_any_such_shows_a_conflict(self):
        almanac, signs = (3, 0, 1, 1, 2, (1,), 1), (("bell", 1),)
        many = fewest_wakings(almanac, signs, 4)
        self.assertGreater(many, 1)
        met = {True: 0, False: 0}
        for one in stories(almanac, many):
            for other in stories(almanac, many):
                alike = seen(almanac, signs, one) == seen(almanac, signs, other)
                right = alike and is_clash(almanac, one, other)
                self.assertIs(shows_signed_conflict(almanac, signs, (one, other)), right)
                met[right] += 1
        self.assertTrue(met[True] > 1 and met[False] > 1)

    def test_any_value_may_be_shown(self):
        odd = ODD_VALUES + ((None, None), (((0,), ()),), (((0,), ()), ((0,), ())), ((0, 2), ()), [((0,), ())] * 2)
        for almanac in (DAY, CALM, RARE):
            for signs in LOTS:
                found = signed_conflict(almanac, signs)
                for value in odd:
                    answer = shows_signed_conflict(almanac, signs, value)
                    right = value is None if found is None else almanac == RARE and value == (((0,), ()), ((0,), ()))
                    self.assertIs(answer, right, (almanac, signs, value))
        self.assertFalse(shows_signed_conflict(RARE, TOLD, (((False,), ()), ((0,), ()))))


class Limits(Case):
    def test_places_against_all_stories(self):
        # In the last ones a bell tells gaps apart that are alike but for a day more of both.
        for almanac, signs in all_kinds()[::4] + [((2, 0, 1, 1, 4, (1,), 2), (("bell", 1),)), (LONG, (("bell", 2),))]:
            period = lcm(almanac[0], *[sign[1] for sign in signs if sign[0] == "second"])
            most = fewest_wakings(almanac, signs, 3) or 3
            groups = [alike for many in range(1, most + 1) for alike in by_sight(almanac, signs, many).values()]
            walk = Walk(signed_scene(almanac, signs), True)
            self.assertEqual(places_walked(walk, most), places_met(almanac, groups, period))

    def test_places_at_all(self):
        # 39996, 40080, 39930 and 40500 places.
        self.assertIsNone(signed_conflict((9, 8, 16, 2, 3, (2, 4, 8), 12), (("bell", 4),)))
        almanac, signs = (12, 3, 13, 2, 4, (-8, -5, 11), 7), (("bell", 2),)
        self.assertEqual(self.too_many(signed_conflict, almanac, signs), 40000)
        self.assertEqual(self.too_many(shows_signed_conflict, almanac, signs, None), 40000)
        self.assertIsNone(signed_conflict((11, 0, 9, 3, 5, (-2, 6), 9), (("second", 6),)))
        signs = (("second", 4), ("second", 5), ("told",))
        self.assertEqual(self.too_many(signed_conflict, (9, 5, 13, 1, 2, (2,), 9), signs), 40000)

    def test_places_by_the_shortest_conflict(self):
        # 39640 by its 51 wakings, 40011 by its 28 wakings.
        many = signed_conflict((9, 0, 8, 1, 2, (-6, -5, 5), 12), TOLD)
        self.assertEqual(len(many[0][0]), 51)
        self.assertEqual(self.too_many(signed_conflict, (9, 1, 9, 2, 3, (-6, -5, -3), 11), TOLD), 40000)

    def test_too_many_wakings_come_ahead(self):
        self.assertEqual(self.too_many(signed_conflict, FIFTY_EIGHT, TOLD), 40000)
        self.assertEqual(self.too_many(signed_conflict, SIXTY_TWO, TOLD), 60)
        self.assertEqual(self.too_many(shows_signed_conflict, SIXTY_TWO, TOLD, True), 60)
        self.assertEqual(self.too_many(helping_lots, SIXTY_TWO, TOLD), 60)


class Lots(Case):
    def test_against_each_lot(self):
        met = set()
        for almanac, signs in all_kinds():
            helping = [
                lot for many in range(len(signs) + 1) for lot in combinations(range(len(signs)), many)
                if signed_conflict(almanac, tuple(signs[number] for number in lot)) is None
            ]
            least = [lot for lot in helping if not any(set(part) < set(lot) for part in helping)]
            self.assertEqual(helping_lots(almanac, signs), tuple(sorted(least)))
            met.add(len(least))
        self.assertEqual(met, {0, 1, 2, 3})

    def test_examples(self):
        self.assertEqual(helping_lots(CALM, (("bell", 1), ("told",))), ((),))
        self.assertEqual(helping_lots(RARE, (("second", 5), ("sun", 1, 1), ("told",))), ())
        self.assertEqual(helping_lots(DAY, (("bell", 1), ("second", 3), ("told",))), ((0,), (1,), (2,)))
        self.assertEqual(helping_lots(DAY, (("bell", 1), ("sun", 1, 3), ("told",))), ((0,), (2,)))
        self.assertEqual(helping_lots(DAY, ()), ())

    def test_lots_of_several(self):
        bell, sun = ("bell", 4), ("sun", 1, 1)
        self.assertEqual(helping_lots((5, 0, 2, 1, 3, (2,), 3), (bell, sun, ("told",))), ((0, 1), (2,)))
        signs = (("sun", 1, 1), ("sun", 3, 3), ("told",))
        self.assertEqual(helping_lots((4, 1, 3, 1, 3, (-3, -2), 3), signs), ((0, 1, 2),))

    def test_limits(self):
        almanac = (12, 3, 13, 2, 4, (-8, -5, 11), 7)
        self.assertEqual(self.too_many(helping_lots, almanac, (("bell", 2),)), 40000)
        # More than 40000 places come with all three, but no lot of more than one is to be gone through.
        almanac, signs = (12, 0, 11, 1, 1, (1,), 1), (("second", 5), ("second", 7), ("second", 11))
        self.assertEqual(self.too_many(signed_conflict, almanac, signs), 40000)
        self.assertEqual(helping_lots(almanac, signs), ((),))


if __name__ == "__main__":
    unittest.main()
