"""Point 1: what holds over the whole package."""

import copy
import inspect
import unittest

from tests.helper import CALM, DAY, ODD_VALUES, RARE
from wrongclock import almanacs, benches, books, counts, drifts, keepers, rules, signs, smalls, texts, twins
from wrongclock.errors import (
    BadAlmanac, BadBook, BadHour, BadNumber, BadReadings, BadSigns, BadStory, BadTable, BadText, ClockworkError,
    NoKeeper, TooMany,
)

# Each function of the interface with the names of its arguments.
INTERFACE = (
    (almanacs, "readings", "almanac", "story"),
    (almanacs, "shut", "almanac", "hour"),
    (almanacs, "opened", "almanac", "hour"),
    (almanacs, "urgent", "almanac", "hour"),
    (twins, "conflict", "almanac"),
    (twins, "shows_conflict", "almanac", "value"),
    (twins, "has_keeper", "almanac"),
    (twins, "places", "almanac"),
    (twins, "shows_places", "almanac", "value"),
    (rules, "rule", "almanac", "readings"),
    (rules, "may_be", "almanac", "readings"),
    (keepers, "bad_story", "almanac", "table"),
    (keepers, "shows_bad_story", "almanac", "table", "value"),
    (keepers, "keeper", "almanac"),
    (keepers, "greatest_late", "almanac"),
    (keepers, "least_rest", "almanac"),
    (keepers, "least_last", "almanac"),
    (keepers, "thumb_fails", "almanac", "thumb"),
    (keepers, "good_thumbs", "almanac"),
    (benches, "Bench", "almanac"),
    (texts, "written", "almanac"),
    (texts, "told", "almanac", "story"),
    (texts, "read_almanac", "text"),
    (texts, "read_story", "almanac", "text"),
    (counts, "count_stories", "almanac", "wakings"),
    (counts, "count_readings", "almanac", "wakings"),
    (counts, "count_with", "almanac", "readings"),
    (counts, "reading_chance", "almanac", "chance", "readings"),
    (counts, "fail_chance", "almanac", "chance", "table", "wakings"),
    (signs, "signed_readings", "almanac", "signs", "story"),
    (signs, "signed_conflict", "almanac", "signs"),
    (signs, "shows_signed_conflict", "almanac", "signs", "value"),
    (signs, "helping_lots", "almanac", "signs"),
    (books, "due", "almanac", "book", "hour"),
    (books, "book_conflict", "almanac", "book"),
    (books, "book_rule", "almanac", "book", "readings"),
    (books, "judged", "almanac", "log"),
    (drifts, "spread", "almanac", "wakings"),
    (drifts, "drift", "almanac"),
    (smalls, "cheapest_bad", "almanac", "table"),
    (smalls, "shows_cheapest_bad", "almanac", "table", "value"),
    (smalls, "smallest", "almanac", "most"),
    (smalls, "fewest_states", "almanac", "most"),
)
# These may return any of several values.
ANY_SUCH = (
    "conflict", "bad_story", "thumb_fails", "signed_conflict", "book_conflict", "cheapest_bad", "smallest",
)
RIGHT = {
    "almanac": CALM, "story": ((0,), ()), "hour": 0, "value": None, "readings": (0,), "table": (((0, 0),) * 4,),
    "thumb": (1,), "text": "0 woken\n", "wakings": 1, "chance": (1, 2), "signs": (("told",),),
    "book": ((1, 3, 1, 0),), "log": ((0, 0),), "most": 2,
}
# Other right arguments, for an almanac with settings.
OTHERS = {
    "almanac": DAY, "story": ((0, 2, 3, 5), ((2, 1),)), "hour": 6, "value": ((0, 1), ()), "readings": (0, 2),
    "table": (((0, 0), (0, 1), (0, 0), (0, 0)),), "thumb": (1, 2), "text": "0 woken\n1 set -1\n2 woken\n",
    "wakings": 3, "chance": (1, 3), "signs": (("bell", 3), ("sun", 0, 2)), "book": ((1, 3, 1, 0), (0, 2, 2, 1)),
    "log": ((0, 0), (2, 1)), "most": 1,
}
# The error for a wrong value of each argument; any is right for "value".
WRONG = {
    "almanac": BadAlmanac, "story": BadStory, "hour": BadHour, "readings": BadReadings, "table": BadTable,
    "thumb": BadReadings, "text": BadText, "wakings": BadNumber, "chance": BadNumber, "signs": BadSigns,
    "book": BadBook, "log": BadReadings, "most": BadNumber,
}
SLOW = (12, 2, 12, 1, 2, (-11,), 11)


def functions():
    return [(getattr(module, name), names) for module, name, *names in INTERFACE]


def called_with(function, names, at, value):
    """Call a function with right arguments, but a value in place of the one with this number."""
    return function(*[value if place == at else RIGHT[name] for place, name in enumerate(names)])


class Whole(unittest.TestCase):
    def test_interface(self):
        for module, name, *names in INTERFACE:
            function = getattr(module, name)
            self.assertEqual(function.__module__, module.__name__)
            self.assertEqual(list(inspect.signature(function).parameters), names)

    def test_right_arguments(self):
        for function, names in functions():
            if function is not texts.read_almanac:
                function(*[RIGHT[name] for name in names])

    def test_any_value_for_any_argument(self):
        for function, names in functions():
            for at, name in enumerate(names):
                for value in ODD_VALUES if name in WRONG else ():
                    if name == "signs" and value == ():
                        continue
                    with self.assertRaises(WRONG[name], msg=(function, name, value)):
                        called_with(function, names, at, value)

    def test_any_value_for_the_almanac(self):
        for function, names in functions():
            for almanac in ODD_VALUES + (list(DAY), DAY[:6], DAY + (1,)) if names[0] == "almanac" else ():
                with self.assertRaises(BadAlmanac) as caught:
                    called_with(function, names, 0, almanac)
                self.assertEqual(caught.exception.part, "almanac")

    def test_the_leftmost_argument_is_blamed(self):
        for function, names in functions():
            for at, name in enumerate(names):
                if name in WRONG:
                    right = [RIGHT[before] for before in names[:at]]
                    with self.assertRaises(WRONG[name]):
                        function(*right, *[None for _ in names[at:]])

    def test_shows_any_value(self):
        odd = ODD_VALUES + ((None, None), (((0,), ()),), (((0,), ()), ((0,), ())), [((0,), ()), ((0,), ())])
        table = RIGHT["table"]
        for almanac in (DAY, CALM, RARE):
            for value in odd + ((0, 0, 0, 0, 1, 1), ((0, 0, 0, 0, 1, True),), ({},) * 6, (({},) * 6,), ((0, 2), ())):
                self.assertIs(type(twins.shows_conflict(almanac, value)), bool)
                self.assertIs(type(twins.shows_places(almanac, value)), bool)
                self.assertIs(type(keepers.shows_bad_story(almanac, table, value)), bool)
                self.assertIs(type(smalls.shows_cheapest_bad(almanac, table, value)), bool)
                self.assertIs(type(signs.shows_signed_conflict(almanac, (("sun", 0, 1),), value)), bool)

    def test_too_many_comes_last(self):
        # The value doesn't matter where an almanac has too many places, but a wrong almanac is told first.
        for value in (None, True, (((0,), ()), ((0,), ()))):
            with self.assertRaises(TooMany):
                twins.shows_conflict(SLOW, value)
        with self.assertRaises(BadAlmanac):
            twins.shows_conflict(SLOW[:6] + (13,), None)

    def test_no_keeper_comes_ahead_of_too_many(self):
        with self.assertRaises(TooMany):
            twins.has_keeper(SLOW)
        with self.assertRaises(NoKeeper):
            keepers.keeper(SLOW)

    def test_true_and_false_are_no_integers(self):
        for wrong in ((0, False), (0, True)):
            with self.assertRaises(BadReadings):
                rules.rule(DAY, wrong)
            with self.assertRaises(BadStory):
                almanacs.readings(DAY, (wrong, ()))
        for wrong in (((True, 1),), ((1, True),)):
            with self.assertRaises(BadStory):
                almanacs.readings(DAY, ((0, 2), wrong))
        with self.assertRaises(BadHour):
            almanacs.shut(DAY, True)
        self.assertFalse(twins.shows_conflict(RARE, (((False,), ()), ((0,), ()))))
        self.assertFalse(twins.shows_places(CALM, ((False, 0, 0, 0, 1, 1),) + twins.places(CALM)[1:]))
        self.assertFalse(keepers.shows_bad_story(RARE, (((0, 0),) * 4,), ((False,), ())))

    def test_no_argument_is_modified(self):
        for value in ([[0], []], {"hours": [4]}, [[0, 0, 0, 0, 1, 1]], ([0], []), ([0, 0, 0, 0, 1, 1],)):
            before = copy.deepcopy(value)
            for function, names in functions():
                for at in range(len(names)):
                    try:
                        called_with(function, names, at, value)
                    except ClockworkError:
                        pass
            self.assertEqual(value, before)

    def test_equal_arguments_have_equal_answers(self):
        for _ in range(2):
            self.assertEqual(twins.places(CALM), tuple((hour, 0, 0, 0, 1, 1) for hour in range(4)))
            self.assertEqual(rules.may_be(DAY, (0, 2)), (1, 2))
            self.assertEqual(almanacs.urgent(DAY, 2), 1)
            self.assertEqual(keepers.good_thumbs((3, 0, 2, 1, 1, (), 1)), ((0,), (0, 1), (1,), (1, 2), (2,)))

    def test_the_order_of_the_calls_does_not_matter(self):
        calls = [(function, names, right) for function, names in functions() for right in (RIGHT, OTHERS)]
        answers = []
        for order in (calls, calls[::-1], calls[1::2] + calls[::2]):
            arguments = (copy.deepcopy(RIGHT), copy.deepcopy(OTHERS))
            found = {}
            for function, names, right in order:
                if function.__name__ not in ANY_SUCH + ("Bench",):
                    try:
                        answer = function(*[right[name] for name in names])
                    except ClockworkError as error:
                        answer = repr(error)
                    found[function.__name__, right is RIGHT] = answer
            self.assertEqual((RIGHT, OTHERS), arguments)
            answers.append(found)
        self.assertGreater(len(answers[0]), 60)
        self.assertEqual(answers[0], answers[1])
        self.assertEqual(answers[0], answers[2])

    def test_answers_are_exact(self):
        self.assertEqual(almanacs.opened((7, 3, 5, 1, 2, (), 1), 10 ** 9), (10 ** 9 - 3) // 7 + 1)
        self.assertEqual(counts.count_stories((4, 1, 3, 1, 24, (), 1), 60), 24 ** 59)
        self.assertEqual(books.due((7, 3, 5, 1, 2, (), 1), ((3, 5, 3, 1),), 10 ** 9), ((10 ** 9 - 11) // 21 + 1,))


if __name__ == "__main__":
    unittest.main()
