"""The pairs that a book's rows show surely at two places."""

from hidhalves.errors import NoPlace
from hidhalves.halves import PAIRS, lets
from hidhalves.rows import is_whole


def are_places(book, first, second):
    """Whether first and second, of any kind, are two rising places of the book."""
    return is_whole(first) and is_whole(second) and 0 <= first < second < book[0]


def shows_surely(row, first, second, pair):
    """Whether in each parting of the row a half-row shows the pair at these places."""
    # With two b one parting shows nn and yy, another ny and yn: none is sure.
    if row[first] == "b" and row[second] == "b":
        return False
    return lets(row[first], pair[0]) and lets(row[second], pair[1])


def first_showing(book, first, second, pair):
    """The name of the first row that shows the pair surely, None where there is none."""
    for name, row in book[1]:
        if shows_surely(row, first, second, pair):
            return name
    return None


def seen_at(book, first, second):
    """A rising tuple of (PAIR, NAME) for each pair that a row shows surely at these places."""
    if not are_places(book, first, second):
        raise NoPlace("no two rising places of the book")
    seen = []
    for pair in PAIRS:
        name = first_showing(book, first, second, pair)
        if name is not None:
            seen.append((pair, name))
    return tuple(seen)
