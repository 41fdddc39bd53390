"""Half-rows that cross: four of them show all four pairs at two places."""

from hidhalves.halves import PAIRS, pair_at


def four_at(rising, first, second):
    """The least half-row for each pair at these places, None where a pair isn't shown."""
    least = {}
    for half in rising:
        least.setdefault(pair_at(half, first, second), half)
    if len(least) < len(PAIRS):
        return None
    return tuple([least[pair] for pair in PAIRS])


def crossing_of(halves):
    """None where the half-rows don't cross, else (I, J, FOUR) for the least places."""
    rising = sorted(set(halves))
    places = len(rising[0])
    for first in range(places):
        for second in range(first + 1, places):
            four = four_at(rising, first, second)
            if four is not None:
                return (first, second, four)
    return None
