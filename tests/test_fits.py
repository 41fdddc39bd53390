import copy
import itertools
import unittest

from hidhalves.fits import fit_told, is_fit
from tests.things import LikeAll, all_texts, bent, listed, odd_things, some_books
from tests.trials import choices_by_trial, cross, fits_by_trial, many_choices, wrong_with_bar

NAMES = "abcdefghij"
# Odd at each two of three b by what is seen, but three b of one row can't be so.
ODD = (3, (("p", "bbb"), ("q", "nyn"), ("r", "ynn"), ("s", "nny")))
FOUR = (2, (("p", "nb"), ("q", "yb")))


def small(books, most=400):
    return [book for book in books if many_choices(book) <= most]


class Told(unittest.TestCase):
    def look_at(self, book):
        """What is told of the book, held against its fits, and what sort it was."""
        told = fit_told(book)
        self.assertIs(type(told), tuple)
        self.assertEqual(len(told), 2)
        if told[0] == "fit":
            self.look_at_fit(book, told[1])
            return "fit"
        self.assertEqual(told[0], "barred")
        self.assertIsNone(wrong_with_bar(book, told[1]), (book, told[1]))
        return told[1][0]

    def look_at_fit(self, book, fit):
        self.assertIs(type(fit), tuple)
        self.assertEqual(len(fit), len(book[1]))
        for (name, row), parting in zip(book[1], fit):
            self.assertIs(type(parting), tuple)
            one, other = parting
            self.assertLessEqual(one, other)
            self.assertEqual((len(one), len(other)), (book[0], book[0]))
            for mark, a, b in zip(row, one, other):
                self.assertEqual({a, b}, {"n", "y"} if mark == "b" else {mark})
        self.assertFalse(cross([half for parting in fit for half in parting]))

    def test_no_rows(self):
        for places in range(1, 9):
            self.assertEqual(fit_told((places, ())), ("fit", ()))

    def test_one_fit(self):
        self.assertEqual(fit_told((1, (("a", "b"),))), ("fit", (("n", "y"),)))
        self.assertEqual(fit_told((3, (("a", "nyn"),))), ("fit", (("nyn", "nyn"),)))
        self.assertEqual(fit_told((2, (("a", "bb"), ("c", "nb"), ("d", "bn")))),
                         ("fit", (("ny", "yn"), ("nn", "ny"), ("nn", "yn"))))

    def test_four(self):
        self.assertEqual(fit_told(FOUR), ("barred", ("four", 0, 1, ("p", "p", "q", "q"))))
        told = fit_told((4, (("a", "nnnn"), ("c", "nnny"), ("d", "nynn"), ("e", "nyny"))))
        self.assertEqual(told, ("barred", ("four", 1, 3, ("a", "c", "d", "e"))))

    def test_odd(self):
        self.assertEqual(fit_told(ODD), ("barred", ("odd", (
            ("row", "p", 0, 1, 2), ("seen", 0, 1, 1), ("seen", 0, 2, 1), ("seen", 1, 2, 1)))))

    def test_odd_by_several_rows(self):
        book = (4, (("a", "bbnb"), ("c", "nbbb"), ("d", "bnbb"), ("e", "bbbn")))
        told = self.look_at(book)
        self.assertEqual(told, "fit" if fits_by_trial(book) else "odd")

    def test_both_sorts_in_one_book(self):
        book = (5, (("p", "bbbnn"), ("q", "nynnb"), ("r", "ynnyb"), ("s", "nnynn")))
        self.assertEqual(fits_by_trial(book), [])
        self.assertIn(self.look_at(book), ("four", "odd"))

    def test_all_books_of_three_rows_of_two_places(self):
        for rows in itertools.product(all_texts("bny", 2), repeat=3):
            book = (2, tuple(zip("acd", rows)))
            self.assertEqual(self.look_at(book) == "fit", fits_by_trial(book) != [], book)

    def test_small_books_by_trial(self):
        sorts = []
        for book in small(some_books(41, 500, 6, 6)):
            before = copy.deepcopy(book)
            sorts.append(self.look_at(book))
            self.assertEqual(sorts[-1] == "fit", fits_by_trial(book) != [], book)
            self.assertEqual(book, before)
        for sort in ("fit", "four", "odd"):
            self.assertGreater(sorts.count(sort), 3, sort)

    def test_large_books(self):
        for book in some_books(42, 150, 8, 10):
            self.look_at(book)

    def test_ten_rows_of_eight_b(self):
        book = (8, tuple((name, "bbbbbbbb") for name in NAMES))
        self.assertEqual(self.look_at(book), "fit")
        parted = fit_told(book)[1]
        self.assertEqual(len(set(parted)), 1)

    def test_nine_rows_of_eight_b_and_one_more(self):
        eight = tuple((name, "bbbbbbbb") for name in NAMES[:9])
        for last in ("nnnnnnnn", "nynynyny", "bnbnbnbn", "bbbbbbbn"):
            self.assertEqual(self.look_at((8, eight + (("z", last),))), "fit")

    def test_bars_of_many_rules(self):
        books = [
            "yybnbbb bbbnbby bbbnynb",
            "nbnbbb bbbnnb bbnnbn nnbnbb",
            "nbnnnbb nnbbbnb nbbbnbb bbnnbbb bnnbbbn bnbbbnn bbbbbbn bnnbbbn",
            "bnnbbnbn nbnbnbbn bnbnbnbn nnnnbbnb nbnnbbbb nnbbbbbb bbnnbnbn nbbbnnnn",
            "nnnbnnnn nnnnbbbb nbbnnnbn nbnnnbbn nnbnbbnn bnbbbnbn bnbnnbnn nnbnnnnn nnnnnnnb",
        ]
        for rows in books:
            rows = rows.split()
            self.assertEqual(self.look_at((len(rows[0]), tuple(zip(NAMES, rows)))), "odd")

    def test_told_anew(self):
        for book in (ODD, FOUR, (2, (("a", "bb"),))):
            one, other = fit_told(book), fit_told(book)
            self.assertEqual(one, other)
            self.assertIsNot(one, other)
            self.assertIsNot(one[1], other[1])

    def test_somewhat_more_than_the_limits(self):
        nine = (9, (("a", "bbbbbbbbb"), ("c", "nbnnnnnnn")))
        self.assertEqual(self.look_at(nine), "fit")
        self.assertIs(is_fit(nine, fit_told(nine)[1]), True)
        self.assertEqual(self.look_at((3, tuple((name, "bbb") for name in "abcdefghijkl"))), "fit")


class IsFit(unittest.TestCase):
    def test_no_rows(self):
        for places in (1, 8):
            self.assertIs(is_fit((places, ()), ()), True)
            for thing in ([], None, ((),), (("n", "n"),), "", {}, 0, False):
                self.assertIs(is_fit((places, ()), thing), False)

    def test_all_choices_of_small_books(self):
        for book in small(some_books(43, 150, 5, 4), 200):
            right = fits_by_trial(book)
            for choice in choices_by_trial(book):
                self.assertIs(is_fit(book, choice), choice in right)

    def test_barred_books_have_none(self):
        for book in (ODD, FOUR):
            for choice in choices_by_trial(book):
                self.assertIs(is_fit(book, choice), False)

    def test_one_parting_put_otherwise(self):
        book = (3, (("a", "bbn"), ("c", "nbb"), ("d", "yyy")))
        for fit in fits_by_trial(book):
            self.assertIs(is_fit(book, fit), True)
            for at, (one, other) in enumerate(fit):
                for parting in [(other, one), (one, one), (other, other), (one,), (one, other, one), (), (one, other[:2]),
                                (one + "n", other + "n"), (one.upper(), other.upper()), ("bbn", "bbn"), ("", "")]:
                    if parting != (one, other):
                        self.assertIs(is_fit(book, fit[:at] + (parting,) + fit[at + 1:]), False, parting)

    def test_all_pairs_of_half_rows_for_one_row(self):
        for row in all_texts("bny", 2) + all_texts("bny", 3):
            book = (len(row), (("a", row),))
            halves = all_texts("ny", len(row))
            for parting in itertools.product(halves, repeat=2):
                self.assertIs(is_fit(book, (parting,)), (parting,) in fits_by_trial(book))

    def test_longer_shorter_and_exchanged(self):
        book = (2, (("a", "bb"), ("c", "nb")))
        fit = fit_told(book)[1]
        for thing in [fit[:1], fit[1:], fit + fit[:1], fit + fit, (), fit[::-1], (fit,), fit + ((),), fit + (None,)]:
            self.assertIs(is_fit(book, thing), False)

    def test_lists_for_tuples(self):
        book = (2, (("a", "bb"), ("c", "nb"), ("d", "nn")))
        fit = fit_told(book)[1]
        for thing in listed(fit) + [dict(fit), dict(enumerate(fit)), set(fit), frozenset(fit), repr(fit)]:
            self.assertIs(is_fit(book, thing), False)

    def test_things_of_any_kind(self):
        for book in ((2, (("a", "bb"), ("c", "nb"))), (1, (("a", "n"),)), ODD):
            for thing in odd_things() + [0, 1, LikeAll(), (LikeAll(),), (LikeAll(),) * 2, ((LikeAll(),) * 2,) * 2]:
                self.assertIs(is_fit(book, thing), False)
        book = (2, (("a", "bb"), ("c", "nb")))
        for thing in odd_things() + [0, 1, ["n", "n"], ("n", "n"), b"nn", LikeAll()]:
            for other in bent(fit_told(book)[1], thing):
                self.assertIs(is_fit(book, other), False)

    def test_a_told_bar_is_no_fit(self):
        for book in (ODD, FOUR):
            self.assertIs(is_fit(book, fit_told(book)), False)
            self.assertIs(is_fit(book, fit_told(book)[1]), False)


if __name__ == "__main__":
    unittest.main()
