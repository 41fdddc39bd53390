"""Names, half-rows, rows and books."""

from hidhalves.errors import NoName, NoRoom, NoRow

SMALL_LETTERS = "abcdefghijklmnopqrstuvwxyz"
HALF_SIGNS = "ny"
ROW_SIGNS = "nby"
MOST_SIGNS = 8
MOST_ROWS = 10


def is_whole(thing):
    """Whether thing is a whole number: True and False are ints to Python, but none here."""
    return isinstance(thing, int) and not isinstance(thing, bool)


def is_written_in(thing, signs):
    """Whether thing is a text of one to eight of these signs."""
    if not isinstance(thing, str) or not 1 <= len(thing) <= MOST_SIGNS:
        return False
    return all(sign in signs for sign in thing)


def is_name(thing):
    return is_written_in(thing, SMALL_LETTERS)


def is_half(thing):
    return is_written_in(thing, HALF_SIGNS)


def is_row(thing):
    return is_written_in(thing, ROW_SIGNS)


def is_row_of(thing, places):
    """Whether thing is a row of so many places."""
    return is_row(thing) and len(thing) == places


def is_tuple_of(thing, many):
    """Whether thing is a tuple of so many things."""
    return isinstance(thing, tuple) and len(thing) == many


def are_two_texts(thing):
    """Whether thing is a tuple of two texts."""
    return is_tuple_of(thing, 2) and isinstance(thing[0], str) and isinstance(thing[1], str)


def are_places_of(thing, places):
    """Whether thing is a tuple of places, each from 0 to below places, in any order."""
    return isinstance(thing, tuple) and all(is_whole(place) and 0 <= place < places for place in thing)


def rises(things):
    """Whether each of these things, which can be compared, is less than the next one."""
    return all(thing < after for thing, after in zip(things, things[1:]))


def is_same(thing, standing):
    """Whether thing, of any kind, is just this tuple, text or whole number, and so is all within.

    A mere == would take True for 1, and whatever calls itself equal.
    """
    if isinstance(standing, tuple):
        if not isinstance(thing, tuple) or len(thing) != len(standing):
            return False
        return all(is_same(part, beside) for part, beside in zip(thing, standing))
    if isinstance(standing, str):
        return isinstance(thing, str) and thing == standing
    return is_whole(thing) and thing == standing


def is_named_row(thing, places):
    """Whether thing is a tuple (NAME, ROW), the row of so many places."""
    return is_tuple_of(thing, 2) and is_name(thing[0]) and is_row_of(thing[1], places)


def is_book(thing):
    if not is_tuple_of(thing, 2):
        return False
    places, rows = thing
    if not is_whole(places) or not 1 <= places <= MOST_SIGNS:
        return False
    if not isinstance(rows, tuple) or len(rows) > MOST_ROWS:
        return False
    if not all(is_named_row(named, places) for named in rows):
        return False
    return len({name for name, row in rows}) == len(rows)


def stands_in(book, name):
    """Whether name, of any kind, is one of the book's names."""
    return is_name(name) and any(name == standing for standing, row in book[1])


def copied(rows):
    """A book's rows in tuples of their own, for each tuple that is told is to be new."""
    return [(name, row) for name, row in rows]


def book_with(book, name, row):
    """The book with one row more, behind all others."""
    places, rows = book
    if not is_name(name) or stands_in(book, name):
        raise NoName(name)
    if not is_row_of(row, places):
        raise NoRow("no row of the book's places")
    if len(rows) >= MOST_ROWS:
        raise NoRoom("ten rows stand already")
    return (places, tuple(copied(rows) + [(name, row)]))


def book_without(book, name):
    """The book without the row of this name."""
    places, rows = book
    if not stands_in(book, name):
        raise NoName(name)
    return (places, tuple([named for named in copied(rows) if named[0] != name]))


def row_in(book, name):
    """The row of this name."""
    if not stands_in(book, name):
        raise NoName(name)
    rows = dict(book[1])
    return rows[name]
