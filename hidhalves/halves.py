"""Half-rows beside a row: the row that two part, whether two are a parting, and whether one fits."""

from hidhalves.partings import turned_at_both
from hidhalves.rows import HALF_SIGNS, are_two_texts, is_half, is_row

PAIRS = ("nn", "ny", "yn", "yy")


def pair_at(half, first, second):
    """The pair of signs that the half-row shows at two places."""
    return half[first] + half[second]


def row_by(one, other):
    """The row that these two half-rows of one length part."""
    return "".join([sign if sign == beside else "b" for sign, beside in zip(one, other)])


def is_parting(row, thing):
    """Whether thing, of any kind, is a parting of the row."""
    if not are_two_texts(thing):
        return False
    one, other = thing
    if len(one) != len(row) or len(other) != len(row) or one > other:
        return False
    return row_by(one, other) == row and all(sign in HALF_SIGNS for sign in one + other)


def lets(mark, sign):
    """Whether a half-row of a row with this mark can have the sign there."""
    return mark == "b" or mark == sign


def fits_row(row, half):
    """Whether half, of any kind, is a half-row of some parting of the row."""
    if not is_row(row) or not is_half(half) or len(row) != len(half):
        return False
    return all(lets(mark, sign) for mark, sign in zip(row, half))


def other_half(row, half):
    """The half-row that parts the row together with this one, None where this one doesn't fit."""
    if not fits_row(row, half):
        return None
    return turned_at_both(row, half)
