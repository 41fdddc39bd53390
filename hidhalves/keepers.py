"""Rows kept as they come: added, struck, and brought back."""

from hidhalves.errors import NoRoom, NoUndo
from hidhalves.fitnumbers import many_fits
from hidhalves.rows import MOST_SIGNS, book_with, book_without, copied, is_whole


class Keeper:
    """Keeps the rows of a book, and what the book was ahead of each deed."""

    def __init__(self, places):
        if not is_whole(places) or not 1 <= places <= MOST_SIGNS:
            raise NoRoom("no number of places from 1 to 8")
        self.kept = [(places, ())]

    def add(self, name, row):
        """Adds a row behind all others."""
        self.kept.append(book_with(self.kept[-1], name, row))

    def strike(self, name):
        """Takes out the row of this name."""
        self.kept.append(book_without(self.kept[-1], name))

    def undo(self):
        """Takes back the last deed that isn't taken back yet."""
        if len(self.kept) == 1:
            raise NoUndo("no deed is left to take back")
        self.kept.pop()

    def book(self):
        """The book of the rows that are kept now."""
        places, rows = self.kept[-1]
        return (places, tuple(copied(rows)))

    def numbers(self):
        """The numbers of fits of the first row, the first two, and so on, a list."""
        places, rows = self.kept[-1]
        return [many_fits((places, rows[:many])) for many in range(1, len(rows) + 1)]

    def first_barred(self):
        """The name of the first row by which there is no fit, or None."""
        for (name, row), many in zip(self.kept[-1][1], self.numbers()):
            if many == 0:
                return name
        return None
