"""What is allowed as an argument."""

from wrongclock.errors import BadAlmanac, BadHour, BadNumber, BadReadings, BadStory

MOST_SETTINGS = 4
MOST_LATE = 24
MOST_REST = 12
MOST_WAKINGS = 60
LAST_HOUR = 10 ** 9


def is_integer(value):
    """Tell whether a value is an integer; True and False are none here."""
    return isinstance(value, int) and not isinstance(value, bool)


def is_within(value, least, most):
    """Tell whether a value is an integer from least to most."""
    return is_integer(value) and least <= value <= most


def is_tuple_of(value, many):
    """Tell whether a value is a tuple of so many."""
    return isinstance(value, tuple) and len(value) == many


def ascends(values):
    """Tell whether each of the values is greater than the one before."""
    return all(low < high for low, high in zip(values, values[1:]))


def is_settings(value, hours):
    """Tell whether a value is an almanac's settings."""
    if not isinstance(value, tuple) or len(value) > MOST_SETTINGS:
        return False
    return all(is_within(setting, 1 - hours, hours - 1) and setting != 0 for setting in value) and ascends(value)


def wrong_part(almanac):
    """Return the first part of a tuple of seven that keeps it from being an almanac, None if it is one."""
    hours, first, last, soon, late, settings, rest = almanac
    if not is_within(hours, 2, 12):
        return "hours"
    if not is_within(first, 0, hours - 1):
        return "first"
    if not is_within(last, first, first + hours - 1):
        return "last"
    if not is_within(soon, 1, MOST_LATE):
        return "soon"
    if not is_within(late, soon, MOST_LATE):
        return "late"
    if not is_settings(settings, hours):
        return "settings"
    if not is_within(rest, 1, MOST_REST):
        return "rest"
    return None


def check_almanac(almanac):
    """Raise BadAlmanac for what is no almanac."""
    if not is_tuple_of(almanac, 7):
        raise BadAlmanac("almanac")
    part = wrong_part(almanac)
    if part is not None:
        raise BadAlmanac(part)


def are_wakings(almanac, value):
    """Tell whether a value is the wakings of a story that may be passed."""
    if not isinstance(value, tuple) or not 1 <= len(value) <= MOST_WAKINGS:
        return False
    if not all(is_integer(hour) for hour in value) or value[0] != 0:
        return False
    soon, late = almanac[3], almanac[4]
    return all(soon <= hour - before <= late for before, hour in zip(value, value[1:]))


def are_sets(almanac, value, last_waking):
    """Tell whether a value is the sets of a story with this last waking."""
    if not isinstance(value, tuple):
        return False
    settings, rest = almanac[5], almanac[6]
    allowed_from = 1
    for entry in value:
        if not is_tuple_of(entry, 2):
            return False
        hour, setting = entry
        if not is_within(hour, allowed_from, last_waking):
            return False
        if not is_integer(setting) or setting not in settings:
            return False
        allowed_from = hour + rest
    return True


def is_story(almanac, value):
    """Tell whether a value is a story of the almanac that may be passed."""
    if not is_tuple_of(value, 2):
        return False
    wakings, sets = value
    return are_wakings(almanac, wakings) and are_sets(almanac, sets, wakings[-1])


def check_story(almanac, story):
    """Raise BadStory for what is no story of the almanac."""
    if not is_story(almanac, story):
        raise BadStory()


def check_hour(hour):
    """Raise BadHour for what is no hour that may be asked about."""
    if not is_within(hour, 0, LAST_HOUR):
        raise BadHour()


def check_number(value, most):
    """Raise BadNumber for what is no integer from 1 to most."""
    if not is_within(value, 1, most):
        raise BadNumber()


def are_readings(almanac, value):
    """Tell whether a value has the form of readings, whether a story has them or not."""
    if not isinstance(value, tuple) or not 1 <= len(value) <= MOST_WAKINGS:
        return False
    hours = almanac[0]
    return all(is_within(reading, 0, hours - 1) for reading in value)


def check_readings(almanac, readings):
    """Raise BadReadings for what doesn't have the form of readings."""
    if not are_readings(almanac, readings):
        raise BadReadings()
