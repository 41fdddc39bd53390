"""Books in which marks are lacking, and what these can be."""

from hidhalves.errors import NoRoom
from hidhalves.fits import solved

LACKING = "o"
# Rising as signs of a text are.
FILLS = "bny"
MOST_LACKING = 5


def lacking_in(book):
    """For each o, in the book's order, the number of its row, from 0, and its place."""
    return [(at, place) for at, (name, row) in enumerate(book[1]) for place, mark in enumerate(row) if mark == LACKING]


def fills_of_row(row):
    """All rows with n, b or y for each o, rising."""
    fills = [""]
    for mark in row:
        signs = FILLS if mark == LACKING else mark
        fills = [fill + sign for fill in fills for sign in signs]
    return fills


def fills_of(book):
    """All fills of the book, rising."""
    places, rows = book
    fills = [()]
    for name, row in rows:
        fills = [fill + ((name, filled),) for fill in fills for filled in fills_of_row(row)]
    return [(places, fill) for fill in fills]


def has_fit(book):
    links, sums, bar = solved(book)
    return bar is None


def good_fills(book):
    """All fills that have a fit, a rising list."""
    if len(lacking_in(book)) > MOST_LACKING:
        raise NoRoom("too many lacking marks")
    return [fill for fill in fills_of(book) if has_fit(fill)]


def marks_in(fills, at, place):
    """The marks, rising, that the row with this number has at the place in some of the fills."""
    return "".join(sorted({rows[at][1][place] for places, rows in fills}))


def marks_let(book):
    """For each o, in the book's order, (NAME, PLACE, MARKS): the marks that it has in good fills."""
    fills = good_fills(book)
    return [(book[1][at][0], place, marks_in(fills, at, place)) for at, place in lacking_in(book)]
