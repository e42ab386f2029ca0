"""Point 40: texts of almanacs and stories."""

import random
import unittest

from tests.helper import CALM, DAY, ODD_VALUES, small_almanacs, stories
from wrongclock.errors import BadAlmanac, BadStory, BadText
from wrongclock.texts import read_almanac, read_story, told, written

WRITTEN = "day 4\nwindow 1 to 3\nwoken 1 to 2\nset -1 +1\nrest 6\n"
STORY = ((0, 2, 3, 5), ((2, 1),))
TOLD = "0 woken\n2 set +1\n2 woken\n3 woken\n5 woken\n"
NO_NUMBERS = (
    "", "-", "+4", "-4", "04", "004", "00", "00000", "10000", "4.0", "4,", "four", "0x4", "4_0", "\u0664", "\u00b2",
    "4\t",
)


class Case(unittest.TestCase):
    def bad_line(self, line, function, *arguments):
        with self.assertRaises(BadText, msg=arguments) as caught:
            function(*arguments)
        self.assertEqual(caught.exception.line, line, arguments)


class Almanacs(Case):
    def with_line(self, at, line):
        lines = WRITTEN.split("\n")
        return "\n".join(lines[:at] + [line] + lines[at + 1:])

    def test_written(self):
        self.assertEqual(written(DAY), WRITTEN)
        self.assertEqual(written(CALM), "day 4\nwindow 1 to 3\nwoken 1 to 2\nset never\nrest 1\n")
        self.assertEqual(
            written((12, 11, 22, 1, 24, (-11, -3, 4, 11), 12)),
            "day 12\nwindow 11 to 22\nwoken 1 to 24\nset -11 -3 +4 +11\nrest 12\n",
        )
        self.assertEqual(written((2, 0, 0, 24, 24, (1,), 1)), "day 2\nwindow 0 to 0\nwoken 24 to 24\nset +1\nrest 1\n")

    def test_there_and_back(self):
        for almanac in small_almanacs() + [DAY, CALM, (12, 11, 22, 1, 24, (-11, -3, 4, 11), 12)]:
            self.assertEqual(read_almanac(written(almanac)), almanac)

    def test_no_string_and_the_empty_text(self):
        for value in (None, True, 0, [], {}, (), WRITTEN.encode(), [WRITTEN], tuple(WRITTEN.split("\n")), ""):
            self.bad_line(0, read_almanac, value)

    def test_a_last_line_that_is_not_ended(self):
        self.bad_line(0, read_almanac, "day 4")
        self.bad_line(4, read_almanac, WRITTEN[:-1])
        self.bad_line(3, read_almanac, "day 4\nwindow 1 to 3\nwoken 1 to 2\nset -1 +1")
        # It comes ahead of lines that are wrong.
        self.bad_line(5, read_almanac, "\n" + WRITTEN[:-1])
        self.bad_line(2, read_almanac, "no\n\nday")
        self.bad_line(5, read_almanac, WRITTEN + " ")

    def test_a_line_that_is_lacking(self):
        lines = WRITTEN.split("\n")
        for many in range(1, 5):
            self.bad_line(many, read_almanac, "\n".join(lines[:many]) + "\n")

    def test_a_sixth_line(self):
        for more in ("\n", "rest 6\n", "\n\n", "rest 6\nrest 6\n"):
            self.bad_line(5, read_almanac, WRITTEN + more)

    def test_the_first_wrong_line(self):
        for at in range(5):
            self.bad_line(at, read_almanac, self.with_line(at, ""))
            lines = WRITTEN.split("\n")
            self.bad_line(at, read_almanac, "\n".join(lines[:at] + ["wrong"] * (7 - at)) + "\n")

    def test_words_and_spaces(self):
        for at, lines in enumerate((
            ("4", "day", "day ", " day 4", "day  4", "day 4 ", "Day 4", "day 4 hours", "day 4 4", "day\t4", "day:4"),
            ("window 1 3", "window 1 to", "window to 3", "window 1 to 3 ", "window 1 to  3", "window 1 TO 3",
             "window 1 to 3 to 3", "windows 1 to 3", "window 1 till 3", "woken 1 to 3", "window 1to 3"),
            ("woken 1 2", "woken 1", "woken 1 to 2 ", " woken 1 to 2", "woke 1 to 2", "woken 1 too 2", "window 1 to 2"),
            ("set", "set ", "set 1", "set -1 1", "set  -1", "set -1  +1", "set -1 +1 ", "set +1,-1", "set never +1",
             "set -1 never", "never", "set Never", "set never ", "set never never", "sets -1", "set -1 + 1", "set +",
             "set -", "set --1", "set +-1", "set ++1", "set *1", "set 1+"),
            ("rest", "rest 6 ", "rest  6", "rest 6 6", "rests 6", "6", "rest\n", "rest 6\r"),
        )):
            for line in lines:
                self.bad_line(at, read_almanac, self.with_line(at, line))

    def test_numbers(self):
        for word in NO_NUMBERS:
            for at, line in (
                (0, f"day {word}"), (1, f"window {word} to 3"), (1, f"window 1 to {word}"), (2, f"woken {word} to 2"),
                (2, f"woken 1 to {word}"), (3, f"set +{word}"), (3, f"set -1 +{word}"), (4, f"rest {word}"),
            ):
                self.bad_line(at, read_almanac, self.with_line(at, line))

    def test_each_line_is_right_by_itself(self):
        for at, lines in enumerate((
            ("day 0", "day 1", "day 13", "day 9999"),
            ("window 4 to 4", "window 1 to 0", "window 1 to 5", "window 0 to 4", "window 3 to 7"),
            ("woken 0 to 1", "woken 2 to 1", "woken 1 to 25", "woken 25 to 25"),
            ("set +0", "set -0", "set +4", "set -4", "set +1 -1", "set +1 +1", "set -3 -2 -1 +1 +2", "set -1 +0 +1"),
            ("rest 0", "rest 13"),
        )):
            for line in lines:
                self.bad_line(at, read_almanac, self.with_line(at, line))

    def test_edges(self):
        for at, line, almanac in (
            (1, "window 3 to 6", (4, 3, 6, 1, 2, (-1, 1), 6)),
            (2, "woken 24 to 24", (4, 1, 3, 24, 24, (-1, 1), 6)),
            (3, "set -3 -1 +2 +3", (4, 1, 3, 1, 2, (-3, -1, 2, 3), 6)),
            (3, "set never", (4, 1, 3, 1, 2, (), 6)),
            (4, "rest 12", (4, 1, 3, 1, 2, (-1, 1), 12)),
        ):
            self.assertEqual(read_almanac(self.with_line(at, line)), almanac)

    def test_with_those_ahead_of_it(self):
        # What is right for one day may be wrong for a shorter one; the first line to be wrong is told.
        self.bad_line(1, read_almanac, self.with_line(0, "day 2"))
        self.bad_line(3, read_almanac, "day 2\nwindow 1 to 2\nwoken 1 to 2\nset -2\nrest 6\n")


class Stories(Case):
    def test_told(self):
        self.assertEqual(told(DAY, STORY), TOLD)
        self.assertEqual(told(DAY, ((0,), ())), "0 woken\n")
        self.assertEqual(
            told((4, 1, 3, 10, 12, (-3, 2), 5), ((0, 12), ((1, 2), (6, -3), (12, 2)))),
            "0 woken\n1 set +2\n6 set -3\n12 set +2\n12 woken\n",
        )
        longest = tuple(24 * at for at in range(60))
        lines = "".join(f"{hour} woken\n" for hour in longest)
        self.assertEqual(told((12, 0, 11, 24, 24, (), 1), (longest, ())), lines)

    def test_bad_stories(self):
        for story in ODD_VALUES + (((0, 3), ()), ((0, 1), ((2, 1),)), (tuple(range(61)), ())):
            with self.assertRaises(BadStory):
                told(DAY, story)
        with self.assertRaises(BadAlmanac):
            told(DAY[:6] + (0,), None)

    def test_there_and_back(self):
        chosen = random.Random(40)
        for almanac in small_almanacs():
            for story in chosen.choices(stories(almanac, 3), k=4):
                self.assertEqual(read_story(almanac, told(almanac, story)), story)
        longest = (tuple(24 * at for at in range(60)), tuple((12 * at, (-1) ** at) for at in range(1, 119)))
        almanac = (12, 0, 11, 24, 24, (-1, 1), 12)
        self.assertEqual(read_story(almanac, told(almanac, longest)), longest)

    def test_no_string_and_the_empty_text(self):
        for value in (None, True, 0, [], {}, (), TOLD.encode(), [TOLD], STORY, ""):
            self.bad_line(0, read_story, DAY, value)
        with self.assertRaises(BadAlmanac):
            read_story(DAY[:6] + (0,), None)

    def test_a_last_line_that_is_not_ended(self):
        self.bad_line(0, read_story, DAY, "0 woken")
        self.bad_line(4, read_story, DAY, TOLD[:-1])
        self.bad_line(2, read_story, DAY, "\n\nwoken")
        self.bad_line(1, read_story, DAY, "9 woken\n1 set +1")

    def test_a_last_line_that_is_a_setting(self):
        self.bad_line(2, read_story, DAY, "0 woken\n1 set +1\n")
        self.bad_line(6, read_story, CALM[:5] + ((1,), 1), TOLD + "6 set +1\n")
        self.bad_line(4, read_story, (4, 1, 3, 2, 3, (1,), 1), "0 woken\n1 set +1\n2 set +1\n3 set +1\n")

    def test_no_such_line(self):
        for line in (
            "", " ", "woken", "1", "1  woken", " 1 woken", "1 woken ", "1 Woken", "1 woke", "1\twoken", "1 woken\r",
            "woken 1", "1 woken 1", "1 set", "1 set ", "1 set 1", "1 set  +1", "1 set +1 ", "1 sets +1", "set +1",
            "1 set +1 -1", "1 set +1 1", "1 set never", "1 set + 1", "1 set +", "1 set +0", "1 set -0", "1 +1",
            "1 woken set +1",
        ):
            self.bad_line(1, read_story, DAY, f"0 woken\n{line}\n2 woken\n")
            self.bad_line(2, read_story, DAY, f"0 woken\n1 woken\n{line}\n\n")

    def test_numbers(self):
        for word in NO_NUMBERS:
            self.bad_line(0, read_story, DAY, f"{word} woken\n")
            self.bad_line(1, read_story, DAY, f"0 woken\n{word} woken\n")
            self.bad_line(1, read_story, DAY, f"0 woken\n{word} set +1\n2 woken\n")
            self.bad_line(1, read_story, DAY, f"0 woken\n1 set +{word}\n2 woken\n")

    def test_the_first_line(self):
        for line in ("1 woken", "2 woken", "0 set +1", "1 set +1"):
            self.bad_line(0, read_story, DAY, f"{line}\n1 woken\n")

    def test_wakings_that_can_not_stand_there(self):
        almanac = (4, 1, 3, 2, 3, (-1, 1), 2)
        for hour in (0, 1, 4, 5):
            self.bad_line(1, read_story, almanac, f"0 woken\n{hour} woken\n")
        self.bad_line(2, read_story, almanac, "0 woken\n3 woken\n2 woken\n")
        # Behind a setting at hour 3 no waking can stand that is earlier.
        self.bad_line(2, read_story, almanac, "0 woken\n3 set +1\n2 woken\n")
        self.assertEqual(read_story(almanac, "0 woken\n3 set +1\n3 woken\n"), ((0, 3), ((3, 1),)))
        self.bad_line(3, read_story, almanac, "0 woken\n1 set +1\n3 set +1\n2 woken\n")

    def test_settings_that_can_not_stand_there(self):
        almanac = (4, 1, 3, 2, 3, (-1, 1), 2)
        for hour, setting in ((0, "+1"), (4, "+1"), (1, "+2"), (1, "-2"), (9, "+1")):
            self.bad_line(1, read_story, almanac, f"0 woken\n{hour} set {setting}\n3 woken\n")
        for hour in (0, 1):
            self.bad_line(2, read_story, almanac, f"0 woken\n1 set +1\n{hour} set -1\n3 woken\n")
        self.bad_line(2, read_story, almanac, "0 woken\n1 set +1\n2 set +1\n3 woken\n")
        self.bad_line(3, read_story, almanac[:4] + (9,) + almanac[5:], "0 woken\n1 set +1\n3 set -1\n4 set +1\n")
        self.bad_line(2, read_story, almanac, "0 woken\n2 woken\n2 set +1\n4 woken\n")
        self.bad_line(2, read_story, almanac, "0 woken\n2 woken\n1 set +1\n4 woken\n")
        self.bad_line(3, read_story, almanac, "0 woken\n2 set +1\n2 woken\n3 set +1\n4 woken\n")
        self.assertEqual(
            read_story(almanac, "0 woken\n1 set +1\n3 set -1\n3 woken\n5 set +1\n5 woken\n"),
            ((0, 3, 5), ((1, 1), (3, -1), (5, 1))),
        )
        self.bad_line(1, read_story, CALM, "0 woken\n1 set +1\n1 woken\n")

    def test_sixty_wakings(self):
        almanac = CALM[:5] + ((1,), 1)
        sixty = "".join(f"{hour} woken\n" for hour in range(60))
        self.assertEqual(read_story(almanac, sixty), (tuple(range(60)), ()))
        self.bad_line(60, read_story, almanac, sixty + "60 woken\n")
        self.bad_line(60, read_story, almanac, sixty + "60 set +1\n")
        self.bad_line(60, read_story, almanac, sixty + "60 set +1\n60 woken\n")
        late = sixty[:-len("59 woken\n")] + "59 set +1\n59 woken\n"
        self.assertEqual(read_story(almanac, late), (tuple(range(60)), ((59, 1),)))
        self.bad_line(61, read_story, almanac, late + "60 woken\n")


if __name__ == "__main__":
    unittest.main()
