"""A fit of a book, or a bar that shows that there is none."""

from hidhalves.crossings import crossing_of
from hidhalves.evenodd import added_up, links_by_weight, odd_links
from hidhalves.halves import PAIRS, is_parting
from hidhalves.partings import turned_at_both
from hidhalves.rows import is_tuple_of
from hidhalves.rules import both_places
from hidhalves.seen import seen_at


def four_bar(book):
    """A bar of two places at which all four pairs are surely shown, None where there are none."""
    for first in range(book[0]):
        for second in range(first + 1, book[0]):
            seen = seen_at(book, first, second)
            if len(seen) == len(PAIRS):
                return ("four", first, second, tuple([name for pair, name in seen]))
    return None


def solved(book):
    """(LINKS, SUMS, BAR): what numbers the book's fits, and a bar, None where there are fits."""
    links = links_by_weight(book)
    sums, odd = added_up(book, links)
    bar = four_bar(book)
    if bar is None and odd is not None:
        bar = ("odd", odd)
    return (links, sums, bar)


def parting_with(row, odd):
    """The parting of the row that is odd at just those of its links that stand in odd."""
    both = both_places(row)
    signs = []
    for place, mark in enumerate(row):
        if mark != "b":
            signs.append(mark)
        else:
            signs.append("y" if (both[0], place) in odd else "n")
    one = "".join(signs)
    return (one, turned_at_both(row, one))


def fit_with(book, links, sums, number):
    """The fit with this number of a book with these links and sums, and without a bar."""
    odd = odd_links(links, sums, number)
    return tuple([parting_with(row, odd) for name, row in book[1]])


def fit_told(book):
    """("fit", FIT), or ("barred", BAR) where there is no fit."""
    links, sums, bar = solved(book)
    if bar is not None:
        return ("barred", bar)
    return ("fit", fit_with(book, links, sums, 0))


def is_choice(book, thing):
    """Whether thing, of any kind, is a tuple of partings, one of each row, in the book's order."""
    rows = book[1]
    if not is_tuple_of(thing, len(rows)):
        return False
    return all(is_parting(row, part) for (name, row), part in zip(rows, thing))


def is_fit(book, thing):
    """Whether thing, of any kind, is a fit of the book."""
    if not is_choice(book, thing):
        return False
    halves = [half for parting in thing for half in parting]
    # No half-rows at all, of a book of no rows, don't cross.
    return not halves or crossing_of(halves) is None
