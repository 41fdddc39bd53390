"""How the young of two old rows have their marks with the fewest crossings.

A way at one place is a text of the signs 0 and 1, two for each young one: the numbers of the half-row
of the one old row, and of the other, whose signs there part it.
"""

from hidhalves.halves import row_by

# How the signs of two half-rows can stand that part a row with this mark.
SIGNS_FOR = {"n": ("nn",), "y": ("yy",), "b": ("ny", "yn")}


def all_ways(many):
    """All ways at one place for so many young ones."""
    ways = [""]
    for number in range(2 * many):
        ways = [way + sign for way in ways for sign in "01"]
    return ways


def gives(way, one_signs, other_signs, marks):
    """Whether by this way these signs of the old rows part all young ones, which have these marks."""
    for at, mark in enumerate(marks):
        half_sign = one_signs[int(way[2 * at])]
        beside_sign = other_signs[int(way[2 * at + 1])]
        if row_by(half_sign, beside_sign) != mark:
            return False
    return True


def ways_at(family, place):
    """Each way that gives all young ones their marks at the place, with signs of the old rows for it."""
    one, other, young = family
    marks = [row[place] for row in young]
    ways = {}
    for one_signs in SIGNS_FOR[one[place]]:
        for other_signs in SIGNS_FOR[other[place]]:
            for way in all_ways(len(young)):
                if gives(way, one_signs, other_signs, marks):
                    ways[way] = (one_signs, other_signs)
    return ways


def many_unlike(way, after):
    """How many signs of two ways, side by side, are unlike."""
    return sum([1 for sign, beside in zip(way, after) if sign != beside])


def with_place_more(best, ways):
    """For each way at the next place the best path that ends with it: (MANY, PATH), PATH a tuple of ways."""
    if not best:
        return {way: (0, (way,)) for way in ways}
    longer = {}
    for way in ways:
        many, path = min([(ahead + many_unlike(start[-1], way), start) for ahead, start in best.values()])
        longer[way] = (many, path + (way,))
    return longer


def part_of(signs, number):
    """The text of all signs with this number in these texts."""
    return "".join([text[number] for text in signs])


def telling_of(signs, path, many_young):
    """The telling (A, B, WAYS) by the signs of the old rows at each place and a path of ways."""
    ones = [one_signs for one_signs, other_signs in signs]
    others = [other_signs for one_signs, other_signs in signs]
    ways = [(part_of(path, 2 * at), part_of(path, 2 * at + 1)) for at in range(many_young)]
    return ((part_of(ones, 0), part_of(ones, 1)), (part_of(others, 0), part_of(others, 1)), tuple(ways))


def crossed(family):
    """("crossed", MANY, TELLING) with the fewest crossings, or ("never", PLACE)."""
    one, other, young = family
    ways_by_place = [ways_at(family, place) for place in range(len(one))]
    best = {}
    for place, ways in enumerate(ways_by_place):
        if not ways:
            return ("never", place)
        # What comes behind hangs on the last way alone, so one best path for each is enough.
        best = with_place_more(best, ways)
    many, path = min(best.values())
    signs = [ways[way] for ways, way in zip(ways_by_place, path)]
    return ("crossed", many, telling_of(signs, path, len(young)))
