"""How much each thing weighs that can be done to the clock from one waking to the next.

Weights are a dict of (place, error, wait): the place only goes along, the error is modulo hours, the wait as in
point 5. A pace is a triple: by how much an hour multiplies a weight if the clock may not be set at it, if it may
be and is not, and if it is set by one of the settings.
"""

# Each way to set the clock weighs 1.
COUNTING = (1, 1, 1)


def add_weight(weights, key, weight):
    """Add a weight to that of a key."""
    if weight != 0:
        weights[key] = weights.get(key, 0) + weight


def hour_weighed(almanac, weights, pace):
    """Return the weights an hour later."""
    hours, settings, rest = almanac[0], almanac[5], almanac[6]
    barred, left, turned = pace
    later = {}
    for (place, error, wait), weight in weights.items():
        if wait > 1:
            add_weight(later, (place, error, wait - 1), weight * barred)
            continue
        add_weight(later, (place, error, 1), weight * left)
        for setting in settings:
            add_weight(later, (place, (error + setting) % hours, rest), weight * turned)
    return later


def gaps_weighed(almanac, weights, pace):
    """Return the weights behind each gap: pairs (gap, weights).

    So that gaps of unlike lengths weigh alike, each is filled up to late by hours at which the clock may not be set.
    """
    soon, late = almanac[3], almanac[4]
    behind = []
    for _ in range(late):
        weights = hour_weighed(almanac, weights, pace)
        behind.append(weights)
    filled = []
    factor = 1
    for gap in range(late, soon - 1, -1):
        filled.append((gap, {key: weight * factor for key, weight in behind[gap - 1].items()}))
        factor = factor * pace[0]
    return filled


def whole_weight(almanac, pace):
    """Return how much all weighs that comes behind a waking of weight 1, where an hour multiplies it by pace[0]."""
    soon, late = almanac[3], almanac[4]
    whole = late + 1 - soon
    for _ in range(late):
        whole = whole * pace[0]
    return whole
