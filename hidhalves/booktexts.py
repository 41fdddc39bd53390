"""A book as a text, and read back."""

from hidhalves.errors import NoText
from hidhalves.rows import MOST_ROWS, MOST_SIGNS, is_named_row


def places_line(places):
    return f"places {places}"


def show_book(book):
    """The book's text: a line of its places, then a line for each row."""
    places, rows = book
    return "\n".join([places_line(places)] + [f"{name} {row}" for name, row in rows])


def read_places(line):
    """The places that the first line tells."""
    # Comparing with what is written leaves no room for noughts ahead or other figures.
    for places in range(1, MOST_SIGNS + 1):
        if line == places_line(places):
            return places
    raise NoText(0)


def read_book(text):
    """The book that is written so; lines are numbered from 0, the line of places is line 0."""
    if not isinstance(text, str):
        raise NoText(0)
    lines = text.split("\n")
    places = read_places(lines[0])
    rows = {}
    for at, line in enumerate(lines[1:], start=1):
        named = tuple(line.split(" "))
        if not is_named_row(named, places) or named[0] in rows or at > MOST_ROWS:
            raise NoText(at)
        rows[named[0]] = named
    return (places, tuple(rows.values()))
