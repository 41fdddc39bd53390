import copy
import unittest

from hidhalves.errors import NoFit, NoRoom
from hidhalves.fewest import fewest, fewest_fit, halves_in
from hidhalves.fits import is_fit
from tests.things import some_books
from tests.trials import choices_by_trial, fits_by_trial, halves_by_trial, many_choices, wrong_with_bar

NAMES = "abcdefghij"
ODD = (3, (("p", "bbb"), ("q", "nyn"), ("r", "ynn"), ("s", "nny")))
FOUR = (2, (("p", "nb"), ("q", "yb")))
SMALL = [book for book in some_books(61, 400, 6, 6) if many_choices(book) <= 300]


def book_of(*rows):
    return (len(rows[0]), tuple(zip(NAMES, rows)))


class HalvesOfAChoice(unittest.TestCase):
    def test_unlike_and_rising(self):
        self.assertEqual(halves_in(()), ())
        self.assertEqual(halves_in((("nn", "nn"),)), ("nn",))
        self.assertEqual(halves_in((("ny", "yn"), ("nn", "yy"))), ("nn", "ny", "yn", "yy"))
        self.assertEqual(halves_in((("yn", "yy"), ("ny", "yn"), ("nn", "yn"), ("yy", "yy"))), ("nn", "ny", "yn", "yy"))

    def test_all_choices_of_small_books(self):
        for book in SMALL[:100]:
            for choice in choices_by_trial(book)[:40]:
                told = halves_in(choice)
                self.assertIs(type(told), tuple)
                self.assertEqual(told, halves_by_trial(choice))


class Fewest(unittest.TestCase):
    def look_at(self, book):
        told = fewest(book)
        self.assertIs(type(told), tuple)
        many, choice = told
        self.assertIs(type(many), int)
        self.assertIs(type(choice), tuple)
        self.assertEqual(many, len(halves_by_trial(choice)))
        return many, choice

    def test_no_rows(self):
        for places in (1, 8):
            self.assertEqual(fewest((places, ())), (0, ()))

    def test_rows(self):
        self.assertEqual(fewest(book_of("nyn")), (1, (("nyn", "nyn"),)))
        self.assertEqual(fewest(book_of("b")), (2, (("n", "y"),)))
        self.assertEqual(fewest(book_of("bb", "nb", "bn")), (3, (("ny", "yn"), ("nn", "ny"), ("nn", "yn"))))
        self.assertEqual(fewest(book_of("bb", "nn")), (2, (("nn", "yy"), ("nn", "nn"))))

    def test_alike_rows(self):
        many, choice = self.look_at(book_of("bbb", "bbb", "nnb", "bbb"))
        self.assertEqual(many, 3)
        self.assertEqual([choice[1], choice[3]], [choice[0]] * 2)

    def test_small_books_by_trial(self):
        for book in SMALL:
            before = copy.deepcopy(book)
            many, choice = self.look_at(book)
            choices = choices_by_trial(book)
            self.assertIn(choice, choices)
            self.assertEqual(many, min(len(halves_by_trial(other)) for other in choices))
            self.assertEqual(book, before)

    def test_fewest_need_not_be_a_fit(self):
        self.assertEqual(fewest(FOUR)[0], 4)
        self.assertEqual(fewest(ODD)[0], min(len(halves_by_trial(choice)) for choice in choices_by_trial(ODD)))

    def test_just_at_the_limit(self):
        for rows in (("bbbbbbbn", "nnnnbbbb"), ("bbbbbnnn", "nnbbbbbb"), ("bbbbbbbb", "bbbnnnnn"), ("bbnnnnnn", "bbbbbbbb", "ybbnnnnn")):
            book = book_of(*rows)
            self.assertEqual(many_choices(book), 512)
            many, choice = self.look_at(book)
            self.assertEqual(many, min(len(halves_by_trial(other)) for other in choices_by_trial(book)))
        self.look_at(book_of("bbbbbbbb", "bbbnnnnn", "nnnnnnnn", "bnnnnnnn"))

    def test_no_room(self):
        for rows in (("bbbbbbbb", "nnnnbbbb"), ("bbbbbbbb", "bbbnnnnn", "bbnnnnnn"), ("bbbbbbbb", "bbbbbbbn"), ("bbnnnnnn", "bbbbbbbb", "bbbyyyyy"),
                     tuple("b" * 3 + mark for mark in ("nnn", "nny", "nyn", "nyy", "ynn"))):
            self.assertGreater(many_choices(book_of(*rows)), 512)
            with self.assertRaises(NoRoom):
                fewest(book_of(*rows))

    def test_alike_rows_count_once(self):
        eight = ("bbbbbbbb",) * 9
        self.assertEqual(fewest(book_of(*eight))[0], 2)
        self.look_at(book_of(*eight, "bbbnnnnn"))
        self.look_at(book_of("bbbnnnnn", "bbbbbbbb", "bbbnnnnn", "bbbbbbbb", "bbbnnnnn"))
        with self.assertRaises(NoRoom):
            fewest(book_of(*eight, "bbbbnnnn"))

    def test_told_anew(self):
        book = book_of("bb", "nb", "bn")
        one, other = fewest(book), fewest(book)
        self.assertIsNot(one, other)
        self.assertIsNot(one[1], other[1])


class FewestFit(unittest.TestCase):
    def test_no_rows(self):
        self.assertEqual(fewest_fit((3, ())), (0, ()))

    def test_small_books_by_trial(self):
        unlike = 0
        for book in SMALL:
            fits = fits_by_trial(book)
            if fits:
                many, fit = fewest_fit(book)
                self.assertIn(fit, fits)
                self.assertIs(type(many), int)
                self.assertEqual(many, len(halves_by_trial(fit)))
                self.assertEqual(many, min(len(halves_by_trial(other)) for other in fits))
                unlike += many > min(len(halves_by_trial(other)) for other in choices_by_trial(book))
        self.assertGreater(unlike, 0)

    def test_no_fit_with_a_bar(self):
        barred = [ODD, FOUR] + [book for book in SMALL if not fits_by_trial(book)]
        for book in barred:
            with self.assertRaises(NoFit) as caught:
                fewest_fit(book)
            self.assertIsNone(wrong_with_bar(book, caught.exception.bar))

    def test_no_room_is_never_told(self):
        for book in (book_of(*["bbbbbbbb"] * 10), book_of("bbbbbbbb", "nbbbbbbb", "nnbbbbbb", "nnnbbbbb")):
            many, fit = fewest_fit(book)
            self.assertIs(is_fit(book, fit), True)
            self.assertEqual(many, len(halves_by_trial(fit)))
        barred = book_of("bbbbbbbb", "nbbbbbbb", "ybbbbbbb", "bnbbbbbb", "bybbbbbb")
        with self.assertRaises(NoRoom):
            fewest(barred)
        with self.assertRaises(NoFit) as caught:
            fewest_fit(barred)
        self.assertIsNone(wrong_with_bar(barred, caught.exception.bar))


if __name__ == "__main__":
    unittest.main()
