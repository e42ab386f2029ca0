"""What two stories are compared by.

A scene is a tuple (almanac, deeds, signs). Deeds is an almanac too, but its hours are those from one deed to the
next, and its first and last are those of deed 0: they may be those of an entry of a book. Signs are those of
point 43, besides the clock.
"""


def plain_scene(almanac):
    """Return the scene of points 4 and 5."""
    return (almanac, almanac, ())


def signed_scene(almanac, signs):
    """Return the scene in which the keeper sees signs too."""
    return (almanac, almanac, signs)


def deeds_of(almanac, entry):
    """Return the almanac of the deeds of an entry of a book."""
    hours = almanac[0]
    first, last, every, start = entry
    return (every * hours, start * hours + first, start * hours + last) + almanac[3:]


def entry_scene(almanac, entry):
    """Return the scene for the deeds of an entry of a book."""
    return (almanac, deeds_of(almanac, entry), ())
