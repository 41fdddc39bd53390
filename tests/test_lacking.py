import copy
import itertools
import unittest

from hidhalves.errors import NoRoom
from hidhalves.lacking import good_fills, marks_let
from hidhalves.rows import is_book
from tests.things import chances, some_book
from tests.trials import fits_by_trial, many_choices

NAMES = "abcdefghij"


def book_of(*rows):
    return (len(rows[0]), tuple(zip(NAMES, rows)))


def lacking_by_trial(book):
    return [(at, place) for at, (name, row) in enumerate(book[1]) for place in range(book[0]) if row[place] == "o"]


def fills_by_trial(book):
    """All fills with a fit, straight from the words of point 18."""
    told = []
    lacking = lacking_by_trial(book)
    for marks in itertools.product("ybn", repeat=len(lacking)):
        rows = [list(row) for name, row in book[1]]
        for (at, place), mark in zip(lacking, marks):
            rows[at][place] = mark
        fill = (book[0], tuple((name, "".join(row)) for (name, old), row in zip(book[1], rows)))
        if fits_by_trial(fill):
            told.append(fill)
    return sorted(told)


def marks_by_trial(book):
    fills = fills_by_trial(book)
    return [(book[1][at][0], place, "".join(sign for sign in "bny" if any(fill[1][at][1][place] == sign for fill in fills)))
            for at, place in lacking_by_trial(book)]


def with_lacking(chance, book, many):
    """The book with o for so many of its marks, or for all where it has fewer."""
    rows = [list(row) for name, row in book[1]]
    all_places = [(at, place) for at in range(len(rows)) for place in range(book[0])]
    for at, place in chance.sample(all_places, min(many, len(all_places))):
        rows[at][place] = "o"
    return (book[0], tuple((name, "".join(row)) for (name, old), row in zip(book[1], rows)))


class Lacking(unittest.TestCase):
    def look_at(self, book):
        before = copy.deepcopy(book)
        fills, marks = good_fills(book), marks_let(book)
        self.assertEqual(book, before)
        self.assertEqual([type(fills), type(marks)], [list, list])
        self.assertEqual(fills, fills_by_trial(book), book)
        self.assertEqual(marks, marks_by_trial(book), book)
        self.assertTrue(all(is_book(fill) for fill in fills))
        for told in marks:
            self.assertEqual([type(told)] + [type(part) for part in told], [tuple, str, int, str])
        return fills

    def test_no_rows(self):
        for places in (1, 8):
            self.assertEqual(good_fills((places, ())), [(places, ())])
            self.assertEqual(marks_let((places, ())), [])

    def test_without_o(self):
        book = book_of("bbn", "nbb")
        self.assertEqual(good_fills(book), [book])
        self.assertEqual(marks_let(book), [])
        barred = book_of("nb", "yb")
        self.assertEqual(good_fills(barred), [])
        self.assertEqual(marks_let(barred), [])

    def test_one_o(self):
        self.assertEqual(good_fills(book_of("o")), [book_of("b"), book_of("n"), book_of("y")])
        self.assertEqual(marks_let(book_of("o")), [("a", 0, "bny")])
        book = book_of("nb", "yo")
        self.assertEqual(good_fills(book), [book_of("nb", "yn"), book_of("nb", "yy")])
        self.assertEqual(marks_let(book), [("b", 1, "ny")])
        self.assertEqual(marks_let(book_of("nb", "yn", "yo")), [("c", 1, "n")])
        self.assertEqual(marks_let(book_of("nb", "yn", "oo")), [("c", 0, "bny"), ("c", 1, "bny")])

    def test_no_fill_is_good(self):
        book = book_of("nbo", "ybn", "noo")
        self.assertEqual(self.look_at(book), [])
        self.assertEqual(marks_let(book), [("a", 2, ""), ("c", 1, ""), ("c", 2, "")])

    def test_the_order_is_row_by_row(self):
        book = (3, (("zed", "non"), ("ann", "ono"), ("may", "nno")))
        self.assertEqual([told[:2] for told in marks_let(book)], [("zed", 1), ("ann", 0), ("ann", 2), ("may", 2)])
        self.look_at(book)

    def test_rising(self):
        told = good_fills((2, (("z", "no"), ("a", "on"))))
        self.assertEqual(told[0], (2, (("z", "nb"), ("a", "bn"))))
        self.assertEqual(told, sorted(told))
        self.assertEqual(told[-1], (2, (("z", "ny"), ("a", "yn"))))

    def test_five_o(self):
        self.look_at(book_of("ooooo"))
        self.look_at(book_of("ooo", "nbn", "oon"))
        self.look_at(book_of("nbyo", "onbb", "ooyn", "nnnn", "nyob"))

    def test_books_by_trial(self):
        chance = chances(91)
        some = 0
        for many, tries in ((0, 10), (1, 60), (2, 60), (3, 40), (4, 12), (5, 4)):
            for _ in range(tries):
                book = with_lacking(chance, some_book(chance, 4, 4), many)
                filled = (book[0], tuple((name, row.replace("o", "b")) for name, row in book[1]))
                if many_choices(filled) <= 200:
                    fills = self.look_at(book)
                    some += 0 < len(fills) < 3 ** len(lacking_by_trial(book))
        self.assertGreater(some, 30)

    def test_many_rows_within_seconds(self):
        book = book_of(*["bbbbbbbb"] * 9, "bbbooooo")
        self.assertEqual(len(good_fills(book)), 243)
        self.assertEqual(marks_let(book), [("j", place, "bny") for place in range(3, 8)])

    def test_no_room(self):
        for book in (book_of("oooooo"), book_of("oooooooo"), book_of("ooo", "nbn", "ooo"), book_of("nb", "yb", "oo", "oo", "oo")):
            for asked in (good_fills, marks_let):
                with self.assertRaises(NoRoom):
                    asked(book)

    def test_told_lists_changed(self):
        book = book_of("nb", "yo")
        for asked in (good_fills, marks_let):
            told = asked(book)
            before = copy.deepcopy(told)
            told.clear()
            told.append(None)
            self.assertEqual(asked(book), before)
        whole = book_of("nb", "yn")
        self.assertIsNot(good_fills(whole)[0], whole)
        self.assertIsNot(good_fills(whole)[0][1][0], whole[1][0])


if __name__ == "__main__":
    unittest.main()
