"""The fits of a book: counted, numbered in order, and what is sure in all of them."""

from hidhalves.errors import NoFit, NoNumber, NoPlace
from hidhalves.evenodd import free_links, lessened, twos_of
from hidhalves.fits import fit_with, is_fit, solved
from hidhalves.rows import is_whole
from hidhalves.rules import links_in
from hidhalves.seen import are_places

SURE_WORDS = ("even", "odd")


def many_with(links, sums, bar):
    """How many fits a book has that is solved so."""
    if bar is not None:
        return 0
    return 1 << len(free_links(links, sums))


def many_fits(book):
    """How many fits the book has."""
    links, sums, bar = solved(book)
    return many_with(links, sums, bar)


def fit_at(book, number):
    """The fit with this number, from 0."""
    links, sums, bar = solved(book)
    if not is_whole(number) or not 0 <= number < many_with(links, sums, bar):
        raise NoNumber("no fit has this number")
    return fit_with(book, links, sums, number)


def odd_in(book, fit):
    """For each link of the book whether the fit is odd there."""
    odd = {}
    for (name, row), (one, other) in zip(book[1], fit):
        for first, second in links_in(row):
            odd[(first, second)] = one[first] != one[second]
    return odd


def number_of_fit(book, fit):
    """The number of this fit."""
    if not is_fit(book, fit):
        raise NoFit(None)
    links, sums, bar = solved(book)
    odd = odd_in(book, fit)
    number = 0
    for at in free_links(links, sums):
        number = 2 * number + (1 if odd[links[at]] else 0)
    return number


def sure_at(book, first, second):
    """Whether at these places all fits are "even", all "odd", or some so ("either"), None at no link."""
    if not are_places(book, first, second):
        raise NoPlace("no two rising places of the book")
    links, sums, bar = solved(book)
    if bar is not None:
        raise NoFit(bar)
    if (first, second) not in links:
        return None
    left, bit, used = lessened(sums, twos_of(links, [(first, second)]), 0, 0)
    return "either" if left else SURE_WORDS[bit]
