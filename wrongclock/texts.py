"""Almanacs and stories as texts."""

from wrongclock.checks import MOST_WAKINGS, check_almanac, check_story, wrong_part
from wrongclock.errors import BadText

MOST_FIGURES = 4
PARTS = ("hours", "first", "last", "soon", "late", "settings", "rest")
# Each line of an almanac; "#" stands for a number, "#.." for the settings.
ALMANAC_LINES = (
    ("day", "#"),
    ("window", "#", "to", "#"),
    ("woken", "#", "to", "#"),
    ("set", "#.."),
    ("rest", "#"),
)


def written(almanac):
    """Return the text of an almanac."""
    check_almanac(almanac)
    hours, first, last, soon, late, settings, rest = almanac
    told_settings = " ".join([f"{setting:+d}" for setting in settings]) if settings else "never"
    return f"day {hours}\nwindow {first} to {last}\nwoken {soon} to {late}\nset {told_settings}\nrest {rest}\n"


def told(almanac, story):
    """Return the text of a story."""
    check_almanac(almanac)
    check_story(almanac, story)
    wakings, sets = story
    # At the same hour a setting stands ahead of a waking.
    lines = [(hour, 0, f"{hour} set {setting:+d}\n") for hour, setting in sets]
    lines = lines + [(hour, 1, f"{hour} woken\n") for hour in wakings]
    return "".join([line for _, _, line in sorted(lines)])


def read_almanac(text):
    """Return the almanac of a text."""
    lines = lines_of(text)
    almanac = ()
    for at, line in enumerate(lines):
        parts = almanac_parts(at, line)
        if parts is None:
            raise BadText(at)
        almanac = almanac + parts
        if not begins_almanac(almanac):
            raise BadText(at)
    if len(lines) < len(ALMANAC_LINES):
        raise BadText(len(lines))
    return almanac


def read_story(almanac, text):
    """Return the story of a text."""
    check_almanac(almanac)
    lines = lines_of(text)
    wakings = []
    sets = []
    for at, line in enumerate(lines):
        hour, setting = story_step(line)
        if hour is None:
            raise BadText(at)
        if setting is None:
            if not may_wake(almanac, wakings, sets, hour):
                raise BadText(at)
            wakings.append(hour)
        else:
            if not may_set(almanac, wakings, sets, hour, setting):
                raise BadText(at)
            sets.append((hour, setting))
    if sets and sets[-1][0] > wakings[-1]:
        raise BadText(len(lines))
    return (tuple(wakings), tuple(sets))


def lines_of(text):
    """Return the lines of a text without newlines; raise BadText if there is none or the last one is not ended."""
    if not isinstance(text, str) or text == "":
        raise BadText(0)
    lines = text.split("\n")
    if lines[-1] != "":
        raise BadText(len(lines) - 1)
    return lines[:-1]


def number_of(word):
    """Return the number that a word writes, None if it writes none."""
    if not 1 <= len(word) <= MOST_FIGURES or not all(figure in "0123456789" for figure in word):
        return None
    if word[0] == "0" and word != "0":
        return None
    return int(word)


def setting_of(word):
    """Return the setting that a word writes, None if it writes none."""
    number = number_of(word[1:])
    if number is None or word[0] not in "+-":
        return None
    return number if word[0] == "+" else -number


def settings_of(words):
    """Return the settings that words write, None if they write none."""
    if words == ["never"]:
        return ()
    settings = tuple([setting_of(word) for word in words])
    return None if not settings or None in settings else settings


def almanac_parts(at, line):
    """Return the parts of an almanac that a line tells, None if it has not the form of the line with this number."""
    if at >= len(ALMANAC_LINES):
        return None
    form = ALMANAC_LINES[at]
    words = line.split(" ")
    if form[-1] == "#..":
        settings = settings_of(words[1:])
        return None if words[0] != form[0] or settings is None else (settings,)
    if len(words) != len(form):
        return None
    parts = ()
    for word, expected in zip(words, form):
        if expected == "#":
            parts = parts + (number_of(word),)
        elif word != expected:
            return None
    return None if None in parts else parts


def begins_almanac(parts):
    """Tell whether some parts are the first ones of an almanac."""
    part = wrong_part(parts + (None,) * (len(PARTS) - len(parts)))
    return part is None or PARTS.index(part) >= len(parts)


def story_step(line):
    """Return (hour, setting) for the line of a setting, (hour, None) for that of a waking, else (None, None)."""
    words = line.split(" ")
    hour = number_of(words[0])
    if words[1:] == ["woken"]:
        return (hour, None)
    if len(words) == 3 and words[1] == "set":
        setting = setting_of(words[2])
        return (None, None) if setting is None else (hour, setting)
    return (None, None)


def may_wake(almanac, wakings, sets, hour):
    """Tell whether the next line can be a waking at an hour."""
    if not wakings:
        return hour == 0
    soon, late = almanac[3], almanac[4]
    if len(wakings) >= MOST_WAKINGS or not soon <= hour - wakings[-1] <= late:
        return False
    return not sets or sets[-1][0] <= hour


def may_set(almanac, wakings, sets, hour, setting):
    """Tell whether the next line can be a setting at an hour: a waking must be able to follow."""
    late, settings, rest = almanac[4], almanac[5], almanac[6]
    if not wakings or len(wakings) >= MOST_WAKINGS or not wakings[-1] < hour <= wakings[-1] + late:
        return False
    return setting in settings and (not sets or hour - sets[-1][0] >= rest)
