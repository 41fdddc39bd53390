import copy
import itertools
import unittest

from hidhalves.errors import NoFit, NoNumber, NoPlace
from hidhalves.fitnumbers import fit_at, many_fits, number_of_fit, sure_at
from hidhalves.fits import is_fit
from tests.things import LikeAll, all_texts, bent, listed, odd_things, some_books
from tests.trials import choices_by_trial, fits_by_trial, links_by_trial, many_choices, wrong_with_bar

NAMES = "abcdefghij"
ODD = (3, (("p", "bbb"), ("q", "nyn"), ("r", "ynn"), ("s", "nny")))
FOUR = (2, (("p", "nb"), ("q", "yb")))
TWO = (4, (("a", "bbnn"), ("c", "nnbb"), ("d", "bbbn")))
SMALL = [book for book in some_books(51, 500, 6, 6) if many_choices(book) <= 400]
EIGHT_B = (8, tuple((name, "bbbbbbbb") for name in NAMES))
# Seven rows that each have a b at the first place and one at another: each choice of even and odd fits.
STAR = (8, tuple((NAMES[at], "b" + "n" * at + "b" + "n" * (6 - at)) for at in range(7)))


class Many(unittest.TestCase):
    def test_no_rows(self):
        for places in (1, 5, 8):
            self.assertEqual(many_fits((places, ())), 1)

    def test_one_row(self):
        for many in range(8):
            self.assertEqual(many_fits((8, (("a", "b" * many + "n" * (8 - many)),))), 2 ** max(0, many - 1))

    def test_barred(self):
        self.assertEqual(many_fits(ODD), 0)
        self.assertEqual(many_fits(FOUR), 0)

    def test_small_books_by_trial(self):
        for book in SMALL:
            before = copy.deepcopy(book)
            self.assertEqual(many_fits(book), len(fits_by_trial(book)), book)
            self.assertIs(type(many_fits(book)), int)
            self.assertEqual(book, before)

    def test_all_books_of_three_rows_of_two_places(self):
        for rows in itertools.product(all_texts("bny", 2), repeat=3):
            book = (2, tuple(zip("acd", rows)))
            self.assertEqual(many_fits(book), len(fits_by_trial(book)), book)

    def test_a_great_many(self):
        self.assertEqual(many_fits(EIGHT_B), 128)
        self.assertEqual(many_fits(STAR), 128)
        self.assertEqual(many_fits((8, STAR[1] + (("i", "nnnnnnnn"), ("j", "bbnnnnnn")))), 128)
        self.assertEqual(many_fits((8, STAR[1] + (("j", "bbbbbbbb"),))), 0)
        self.assertEqual(many_fits((8, (("a", "bbbbnnnn"), ("c", "nnnnbbbb")))), 64)


class ByNumber(unittest.TestCase):
    def test_all_of_small_books_and_back(self):
        for book in SMALL:
            for number, fit in enumerate(fits_by_trial(book)):
                told = fit_at(book, number)
                self.assertEqual(repr(told), repr(fit))
                self.assertEqual(number_of_fit(book, fit), number)
                self.assertIs(type(number_of_fit(book, fit)), int)

    def test_the_order_goes_by_rows_first(self):
        book = (4, (("z", "nnbb"), ("a", "bbnn")))
        self.assertEqual([fit_at(book, number) for number in range(4)], [
            (("nnnn", "nnyy"), ("nnnn", "yynn")), (("nnnn", "nnyy"), ("nynn", "ynnn")),
            (("nnny", "nnyn"), ("nnnn", "yynn")), (("nnny", "nnyn"), ("nynn", "ynnn"))])

    def test_a_great_many_in_order(self):
        for book in (EIGHT_B, STAR, (8, STAR[1][::-1]), (8, (("a", "nbbbbbbb"), ("c", "bbnnnnnb")))):
            many = many_fits(book)
            self.assertGreaterEqual(many, 32)
            told = [fit_at(book, number) for number in range(many)]
            self.assertEqual(told, sorted(set(told)))
            for number, fit in enumerate(told):
                self.assertIs(is_fit(book, fit), True)
                self.assertEqual(number_of_fit(book, fit), number)

    def test_no_rows(self):
        self.assertEqual(fit_at((3, ()), 0), ())
        self.assertEqual(number_of_fit((3, ()), ()), 0)
        for number in (1, -1, 2):
            with self.assertRaises(NoNumber):
                fit_at((3, ()), number)

    def test_no_number(self):
        for book in (TWO, EIGHT_B, (1, (("a", "b"),)), (3, ())):
            many = many_fits(book)
            for thing in odd_things() + [many, many + 1, -many, -1, 10 ** 30, True, False, None, "0", b"0", [0], (0,), {0: 0}]:
                with self.assertRaises(NoNumber):
                    fit_at(book, thing)

    def test_no_number_of_a_barred_book(self):
        for book in (ODD, FOUR):
            for thing in odd_things() + [0, 1, 2, 3, -1, False, True]:
                with self.assertRaises(NoNumber):
                    fit_at(book, thing)

    def refuse(self, book, thing):
        with self.assertRaises(NoFit) as caught:
            number_of_fit(book, thing)
        self.assertIsNone(caught.exception.bar)

    def test_choices_that_are_no_fits(self):
        seen = 0
        for book in SMALL[:150] + [ODD, FOUR]:
            right = fits_by_trial(book)
            for choice in choices_by_trial(book)[:60]:
                if choice not in right:
                    seen += 1
                    self.refuse(book, choice)
        self.assertGreater(seen, 100)

    def test_no_fit_of_any_kind(self):
        fit = fit_at(TWO, 1)
        for thing in odd_things() + listed(fit) + [fit[:2], fit + fit[:1], fit[::-1], (fit,), repr(fit), 0, 1, LikeAll(),
                                                   (LikeAll(),) * 3, dict(enumerate(fit)), fit[1:]]:
            self.refuse(TWO, thing)
        for thing in odd_things() + [0, "nnn", LikeAll()]:
            for other in bent(fit, thing):
                if other != fit or isinstance(thing, LikeAll):
                    self.refuse(TWO, other)
        for thing in odd_things():
            self.refuse(ODD, thing)

    def test_halves_exchanged(self):
        fit = fit_at(TWO, 0)
        self.refuse(TWO, ((fit[0][1], fit[0][0]),) + fit[1:])

    def test_told_anew(self):
        one, other = fit_at(TWO, 1), fit_at(TWO, 1)
        self.assertEqual(one, other)
        self.assertIsNot(one, other)
        self.assertIsNot(one[0], other[0])

    def test_somewhat_more_than_the_limits(self):
        nine = (9, (("a", "bbbbbbbbb"),))
        self.assertEqual(many_fits(nine), 256)
        self.assertEqual(number_of_fit(nine, fit_at(nine, 200)), 200)


def sure_by_trial(book, i, j):
    """Straight from the words of point 12, by going through all fits."""
    if (i, j) not in links_by_trial(book):
        return None
    told = set()
    for fit in fits_by_trial(book):
        for (name, row), (one, other) in zip(book[1], fit):
            if row[i] == row[j] == "b":
                told.add("even" if one[i] == one[j] else "odd")
    return "either" if len(told) == 2 else min(told)


class Sure(unittest.TestCase):
    def test_words(self):
        self.assertEqual(sure_at((2, (("a", "bb"),)), 0, 1), "either")
        self.assertEqual(sure_at((2, (("a", "bb"), ("c", "nn"), ("d", "yy"))), 0, 1), "even")
        self.assertEqual(sure_at((2, (("a", "bb"), ("c", "nb"), ("d", "bn"))), 0, 1), "odd")
        self.assertIsNone(sure_at((2, (("a", "bn"), ("c", "nn"))), 0, 1))
        self.assertIsNone(sure_at((2, ()), 0, 1))

    def test_what_follows_by_three_b(self):
        book = (3, (("a", "bbb"), ("c", "nnn"), ("d", "yyn"), ("e", "nyy")))
        self.assertEqual(fits_by_trial(book), [])
        book = (4, (("a", "bbbn"), ("c", "nbbn"), ("d", "bbnb")))
        for i, j in itertools.combinations(range(4), 2):
            self.assertEqual(sure_at(book, i, j), sure_by_trial(book, i, j))

    def test_small_books_by_trial(self):
        words = []
        for book in SMALL:
            if fits_by_trial(book):
                for i, j in itertools.combinations(range(book[0]), 2):
                    words.append(sure_at(book, i, j))
                    self.assertEqual(words[-1], sure_by_trial(book, i, j), (book, i, j))
        for word in ("even", "odd", "either", None):
            self.assertGreater(words.count(word), 20, word)

    def test_a_great_many(self):
        for i, j in itertools.combinations(range(8), 2):
            self.assertEqual(sure_at(EIGHT_B, i, j), "either")
            self.assertEqual(sure_at(STAR, i, j), "either" if i == 0 else None)

    def test_no_place(self):
        wrong = [(0, 0), (1, 0), (2, 1), (-1, 0), (-1, 1), (0, 4), (2, 4), (0, 10 ** 30), (False, True), (0, True), (False, 1),
                 ("0", "1"), (None, None), ([0], [1]), (0, None), ((0, 1), (0, 1))]
        for book in (TWO, ODD, (3, ())):
            for i, j in wrong:
                with self.assertRaises(NoPlace):
                    sure_at(book, i, j)
            for thing in odd_things():
                for i, j in ((thing, 1), (0, thing), (thing, thing)):
                    with self.assertRaises(NoPlace):
                        sure_at(book, i, j)

    def test_no_place_ahead_of_no_fit(self):
        for i, j in ((0, 0), (1, 0), (0, 2), (-1, 1), (False, True), (None, 1)):
            with self.assertRaises(NoPlace):
                sure_at(FOUR, i, j)

    def test_no_fit_with_a_bar(self):
        barred = [ODD, FOUR] + [book for book in SMALL if not fits_by_trial(book)]
        for book in barred:
            for i, j in itertools.combinations(range(book[0]), 2):
                with self.assertRaises(NoFit) as caught:
                    sure_at(book, i, j)
                self.assertIsNone(wrong_with_bar(book, caught.exception.bar))

    def test_no_fit_where_there_is_no_link(self):
        self.assertEqual(links_by_trial(FOUR), [])
        with self.assertRaises(NoFit):
            sure_at(FOUR, 0, 1)


if __name__ == "__main__":
    unittest.main()
