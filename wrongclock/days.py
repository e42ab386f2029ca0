"""The windows of the deeds and what the clock shows, for arguments that are known to be right."""


def shut_before(almanac, hour):
    """Return how many deeds have their windows wholly before an hour."""
    hours, last = almanac[0], almanac[2]
    # The first window may end on the second day, and then the quotient falls below 0.
    return max(0, (hour - 1 - last) // hours + 1)


def opened_by(almanac, hour):
    """Return how many deeds have their windows begun by an hour."""
    hours, first = almanac[0], almanac[1]
    return (hour - first) // hours + 1


def urgent_at(almanac, hour):
    """Return how many deeds must be done at a waking at an hour."""
    late = almanac[4]
    return shut_before(almanac, hour + late)


def shown_in(almanac, story):
    """Return what the clock shows at the wakings of a story."""
    hours = almanac[0]
    wakings, sets = story
    shown = []
    error = 0
    at = 0
    for waking in wakings:
        while at < len(sets) and sets[at][0] <= waking:
            error += sets[at][1]
            at += 1
        shown.append((waking + error) % hours)
    return tuple(shown)
