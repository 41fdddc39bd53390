"""Families: two old rows and their young ones, and the ways in which whole half-rows are given on."""

from hidhalves.errors import NoRoom
from hidhalves.halves import row_by
from hidhalves.partings import many_partings, partings_of
from hidhalves.rows import is_row, is_row_of, is_tuple_of

MOST_YOUNG = 3
MOST_PAIRS = 256


def is_family(thing):
    """Whether thing, of any kind, is a family (ONE, OTHER, YOUNG)."""
    if not is_tuple_of(thing, 3):
        return False
    one, other, young = thing
    if not is_row(one) or not is_row_of(other, len(one)):
        return False
    if not isinstance(young, tuple) or not 1 <= len(young) <= MOST_YOUNG:
        return False
    return all(is_row_of(row, len(one)) for row in young)


def given_by(first, second, young):
    """All ways, rising, in which half-rows of the first and the second parting part the young ones."""
    # A parting of a row without b has one half-row twice, but each way is told once.
    pairs = sorted({(half, beside) for half in first for beside in second})
    ways = [()]
    for row in young:
        parting = [(half, beside) for half, beside in pairs if row_by(half, beside) == row]
        ways = [way + (pair,) for way in ways for pair in parting]
    return ways


def whole_tellings(family):
    """All whole tellings (A, B, GIVEN), a rising list."""
    one, other, young = family
    if many_partings(one) * many_partings(other) > MOST_PAIRS:
        raise NoRoom("too many pairs of partings")
    return [(first, second, given)
            for first in partings_of(one)
            for second in partings_of(other)
            for given in given_by(first, second, young)]
