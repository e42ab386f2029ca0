"""Point 1: what holds over the whole package."""

import copy
import inspect
import unittest

from tests.helper import CALM, DAY, ODD_VALUES, RARE
from wrongclock import almanacs, rules, twins
from wrongclock.errors import BadAlmanac, BadHour, BadReadings, BadStory, ClockworkError, TooMany

# Each function of the interface, its further argument where it has one, and the error for a wrong one.
INTERFACE = (
    (almanacs, "readings", "story", BadStory),
    (almanacs, "shut", "hour", BadHour),
    (almanacs, "opened", "hour", BadHour),
    (almanacs, "urgent", "hour", BadHour),
    (twins, "conflict", None, None),
    (twins, "shows_conflict", "value", None),
    (twins, "has_keeper", None, None),
    (twins, "places", None, None),
    (twins, "shows_places", "value", None),
    (rules, "rule", "readings", BadReadings),
    (rules, "may_be", "readings", BadReadings),
)
RIGHT = {"story": ((0,), ()), "hour": 0, "value": None, "readings": (0,)}
SLOW = (12, 2, 12, 1, 2, (-11,), 11)


def right_values(further):
    """The further arguments of a call with nothing wrong in them."""
    return [] if further is None else [RIGHT[further]]


def functions():
    return [(getattr(module, name), further, error) for module, name, further, error in INTERFACE]


class Whole(unittest.TestCase):
    def test_interface(self):
        for module, name, further, _ in INTERFACE:
            function = getattr(module, name)
            self.assertEqual(function.__module__, module.__name__)
            names = ["almanac"] if further is None else ["almanac", further]
            self.assertEqual(list(inspect.signature(function).parameters), names)

    def test_any_value_for_the_almanac(self):
        for function, further, _ in functions():
            for almanac in ODD_VALUES + (list(DAY), DAY[:6], DAY + (1,)):
                with self.assertRaises(BadAlmanac) as caught:
                    function(almanac, *right_values(further))
                self.assertEqual(caught.exception.part, "almanac")

    def test_any_value_for_another_argument(self):
        for function, _, error in functions():
            if error is not None:
                for value in ODD_VALUES:
                    with self.assertRaises(error):
                        function(DAY, value)

    def test_the_leftmost_argument_is_blamed(self):
        for function, _, error in functions():
            if error is not None:
                with self.assertRaises(BadAlmanac):
                    function(DAY[:6] + (0,), None)

    def test_shows_any_value(self):
        odd = ODD_VALUES + ((None, None), (((0,), ()),), (((0,), ()), ((0,), ())), [((0,), ()), ((0,), ())])
        for almanac in (DAY, CALM, RARE):
            for value in odd + ((0, 0, 0, 0, 1, 1), ((0, 0, 0, 0, 1, True),), ({},) * 6, (({},) * 6,)):
                self.assertIn(twins.shows_conflict(almanac, value), (True, False))
                self.assertIs(type(twins.shows_conflict(almanac, value)), bool)
                self.assertIs(type(twins.shows_places(almanac, value)), bool)

    def test_too_many_comes_last(self):
        # The value doesn't matter where an almanac has too many places, but a wrong almanac is told first.
        for value in (None, True, (((0,), ()), ((0,), ()))):
            with self.assertRaises(TooMany):
                twins.shows_conflict(SLOW, value)
        with self.assertRaises(BadAlmanac):
            twins.shows_conflict(SLOW[:6] + (13,), None)

    def test_true_and_false_are_no_integers(self):
        for wrong in ((0, False), (0, True)):
            with self.assertRaises(BadReadings):
                rules.rule(DAY, wrong)
            with self.assertRaises(BadStory):
                almanacs.readings(DAY, (wrong, ()))
        for wrong in (((True, 1),), ((1, True),)):
            with self.assertRaises(BadStory):
                almanacs.readings(DAY, ((0, 2), wrong))
        with self.assertRaises(BadHour):
            almanacs.shut(DAY, True)
        self.assertFalse(twins.shows_conflict(RARE, (((False,), ()), ((0,), ()))))
        self.assertFalse(twins.shows_places(CALM, ((False, 0, 0, 0, 1, 1),) + twins.places(CALM)[1:]))

    def test_no_argument_is_modified(self):
        for value in ([[0], []], {"hours": [4]}, [[0, 0, 0, 0, 1, 1]], ([0], []), ([0, 0, 0, 0, 1, 1],)):
            before = copy.deepcopy(value)
            for function, further, _ in functions():
                calls = [(value,)] if further is None else [(value, value), (DAY, value)]
                for arguments in calls:
                    try:
                        function(*arguments)
                    except ClockworkError:
                        pass
            self.assertEqual(value, before)

    def test_equal_arguments_have_equal_answers(self):
        for _ in range(2):
            self.assertEqual(twins.places(CALM), tuple((hour, 0, 0, 0, 1, 1) for hour in range(4)))
            self.assertEqual(rules.may_be(DAY, (0, 2)), (1, 2))
            self.assertEqual(almanacs.urgent(DAY, 2), 1)

    def test_answers_are_exact(self):
        self.assertEqual(almanacs.opened((7, 3, 5, 1, 2, (), 1), 10 ** 9), (10 ** 9 - 3) // 7 + 1)


if __name__ == "__main__":
    unittest.main()
