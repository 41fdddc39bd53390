"""The partings of a row: listed, counted, and numbered in order."""

from hidhalves.errors import NoNumber, NoParting
from hidhalves.rows import HALF_SIGNS, are_two_texts, is_whole


def turned_at_both(row, half):
    """The half-row that together with this one parts the row: unlike it just where the row has b."""
    signs = []
    for mark, sign in zip(row, half):
        if mark == "b":
            signs.append("y" if sign == "n" else "n")
        else:
            signs.append(sign)
    return "".join(signs)


def many_partings(row):
    # The two half-rows are exchanged where the first b is turned, so that b doesn't count.
    return 1 << max(0, row.count("b") - 1)


def lesser_half(row, number):
    """The lesser half-row of the parting with this number.

    The number's twos say y or n at each b, the last b by the lowest. That keeps the order of texts,
    and leaves n at the first b, for no number of a parting reaches so far.
    """
    signs = []
    left = number
    for mark in reversed(row):
        if mark == "b":
            signs.append(HALF_SIGNS[left & 1])
            left >>= 1
        else:
            signs.append(mark)
    return "".join(reversed(signs))


def parting_at(row, number):
    """The parting with this number, from 0."""
    if not is_whole(number) or not 0 <= number < many_partings(row):
        raise NoNumber("no parting has this number")
    one = lesser_half(row, number)
    return (one, turned_at_both(row, one))


def partings_of(row):
    """All partings of the row, a list in order."""
    return [parting_at(row, number) for number in range(many_partings(row))]


def number_of(row, parting):
    """The number of this parting of the row."""
    if are_two_texts(parting):
        for number, standing in enumerate(partings_of(row)):
            if parting == standing:
                return number
    raise NoParting("no parting of the row")
