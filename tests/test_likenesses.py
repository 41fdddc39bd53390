import copy
import itertools
import unittest

from hidhalves.errors import NoLikeness, NoRoom
from hidhalves.fewest import fewest_fit
from hidhalves.fitnumbers import many_fits, sure_at
from hidhalves.fits import fit_told
from hidhalves.likenesses import carried, carried_book, likenesses
from hidhalves.rules import links_of
from tests.things import all_texts, chances, no_likenesses, odd_things, some_books, some_likeness, some_text
from tests.trials import are_carried_to, carried_by_trial, carried_rows_by_trial, likenesses_of

NAMES = "abcdefghij"


def book_of(*rows):
    return (len(rows[0]), tuple(zip(NAMES, rows)))


def renamed(chance, book):
    """The book's rows in another order, under other names."""
    rows = [row for name, row in book[1]]
    chance.shuffle(rows)
    return (book[0], tuple(zip(chance.sample("klmnopqrst", len(rows)), rows)))


def back(likeness):
    """The likeness that carries back what this one carried."""
    order, turned = likeness
    return (tuple(order.index(place) for place in range(len(order))), tuple(sorted(order[place] for place in turned)))


class Carried(unittest.TestCase):
    def test_by_hand(self):
        self.assertEqual(carried("nby", ((0, 1, 2), ())), "nby")
        self.assertEqual(carried("nby", ((0, 1, 2), (0, 1, 2))), "ybn")
        self.assertEqual(carried("nby", ((2, 0, 1), ())), "ynb")
        self.assertEqual(carried("nby", ((1, 2, 0), (2,))), "byy")
        self.assertEqual(carried("nby", ((1, 2, 0), (0,))), "byn")
        self.assertEqual(carried("n", ((0,), (0,))), "y")
        self.assertEqual(carried("nyybnyby", ((7, 6, 5, 4, 3, 2, 1, 0), (0, 7))), "nbynbyyy")

    def test_all_likenesses_of_few_places(self):
        for places in (1, 2, 3):
            for likeness in likenesses_of(places):
                for row in all_texts("nby", places):
                    self.assertEqual(carried(row, likeness), carried_by_trial(row, likeness))

    def test_half_rows_stay_half_rows(self):
        for likeness in likenesses_of(3):
            self.assertEqual(sorted(carried(half, likeness) for half in all_texts("ny", 3)), all_texts("ny", 3))

    def test_one_to_eight_places(self):
        chance = chances(101)
        for places in range(1, 9):
            for _ in range(60):
                row, likeness = some_text(chance, chance.choice(["nby", "ny"]), places), some_likeness(chance, places)
                before = copy.deepcopy(likeness)
                self.assertEqual(carried(row, likeness), carried_by_trial(row, likeness))
                self.assertEqual(carried(carried(row, likeness), back(likeness)), row)
                self.assertEqual(likeness, before)

    def test_no_likeness(self):
        for places in range(1, 9):
            for row in ("n" * places, "b" * places):
                for thing in odd_things() + no_likenesses(places):
                    with self.assertRaises(NoLikeness):
                        carried(row, thing)

    def test_a_likeness_of_other_places(self):
        chance = chances(102)
        for places, others in itertools.permutations(range(1, 9), 2):
            with self.assertRaises(NoLikeness):
                carried("b" * places, some_likeness(chance, others))


class CarriedBook(unittest.TestCase):
    def test_by_hand(self):
        book = (3, (("zed", "nby"), ("ann", "bbn"), ("may", "nby")))
        self.assertEqual(carried_book(book, ((1, 2, 0), (2,))), (3, (("zed", "byy"), ("ann", "bnb"), ("may", "byy"))))

    def test_no_rows(self):
        for places in range(1, 9):
            likeness = some_likeness(chances(places), places)
            self.assertEqual(carried_book((places, ()), likeness), (places, ()))

    def test_drawn_books(self):
        chance = chances(103)
        sizes = set()
        for book in some_books(104, 300, 8, 10):
            likeness, before = some_likeness(chance, book[0]), copy.deepcopy(book)
            told = carried_book(book, likeness)
            self.assertEqual(repr(told), repr((book[0], carried_rows_by_trial(book, likeness))))
            self.assertEqual(book, before)
            self.assertEqual(carried_book(told, back(likeness)), book)
            sizes.add(len(book[1]))
        self.assertLessEqual({0, 1, 10}, sizes)

    def test_no_likeness(self):
        for places in range(1, 9):
            for book in ((places, ()), (places, (("a", "n" * places),)), (places, tuple((name, "b" * places) for name in NAMES))):
                for thing in odd_things() + no_likenesses(places):
                    with self.assertRaises(NoLikeness):
                        carried_book(book, thing)
                for others in range(1, 9):
                    if others != places:
                        with self.assertRaises(NoLikeness):
                            carried_book(book, (tuple(range(others)), ()))


class Likenesses(unittest.TestCase):
    def hold_against_all(self, book, other):
        before = copy.deepcopy((book, other))
        told = likenesses(book, other)
        self.assertIs(type(told), list)
        wanted = [likeness for likeness in likenesses_of(book[0]) if are_carried_to(book, likeness, other)]
        self.assertEqual(repr(told), repr(wanted), (book, other))
        self.assertEqual((book, other), before)
        return len(told)

    def test_by_hand(self):
        self.assertEqual(likenesses(book_of("n"), book_of("n")), [((0,), ())])
        self.assertEqual(likenesses(book_of("n"), book_of("y")), [((0,), (0,))])
        self.assertEqual(likenesses(book_of("b"), book_of("b")), [((0,), ()), ((0,), (0,))])
        self.assertEqual(likenesses(book_of("b"), book_of("n")), [])
        self.assertEqual(likenesses(book_of("nb"), book_of("by")), [((1, 0), (0, 1)), ((1, 0), (1,))])

    def test_all_books_of_one_row_or_two(self):
        for places, many in ((1, 1), (1, 2), (2, 1), (2, 2), (3, 1)):
            books = [book_of(*rows) for rows in itertools.product(all_texts("nby", places), repeat=many)]
            for book, other in itertools.product(books, repeat=2):
                self.hold_against_all(book, other)

    def test_drawn_books_of_one_to_four_places(self):
        chance = chances(105)
        alike = 0
        for book in some_books(106, 120, 4, 6):
            other = renamed(chance, (book[0], carried_rows_by_trial(book, some_likeness(chance, book[0]))))
            self.assertGreater(self.hold_against_all(book, other), 0)
            bent = (book[0], tuple((name, some_text(chance, "nby", book[0])) if chance.random() < 0.3 else (name, row)
                                   for name, row in other[1]))
            alike += self.hold_against_all(book, bent) > 0
        self.assertGreater(alike, 10)
        self.assertLess(alike, 110)

    def test_alike_rows_are_counted(self):
        self.assertEqual(likenesses(book_of("nb", "nb", "by"), book_of("nb", "by", "by")), [((1, 0), (0, 1))])
        self.assertEqual(likenesses(book_of("nn", "nn", "bb"), book_of("nn", "bb", "bb")), [])
        self.assertEqual(likenesses(book_of("nn", "nn", "bb"), book_of("nn", "bb", "nn")), [((0, 1), ()), ((1, 0), ())])
        self.assertEqual(likenesses(book_of("nn", "ny"), book_of("nn", "nn")), [])
        self.assertEqual(likenesses(book_of("nn", "nn"), book_of("nn", "ny")), [])

    def test_names_are_of_no_account(self):
        one, other = (2, (("a", "nb"), ("b", "nn"))), (2, (("zed", "nn"), ("a", "nb")))
        self.assertEqual(likenesses(one, other), likenesses(one, one))

    def test_no_rows(self):
        for places in range(1, 6):
            self.assertEqual(likenesses((places, ()), (places, ())), likenesses_of(places))

    def test_five_places(self):
        chance = chances(107)
        book = book_of("nbyyb", "bbnny", "nynyn")
        likeness = some_likeness(chance, 5)
        self.hold_against_all(book, renamed(chance, (5, carried_rows_by_trial(book, likeness))))
        self.assertEqual(len(likenesses(book_of(*["bbbbb"] * 10), book_of(*["bbbbb"] * 10))), 3840)
        self.assertEqual(likenesses(book_of("nnnnn"), book_of("nnnnb")), [])

    def test_unlike_numbers_of_places(self):
        for places, others in itertools.permutations(range(1, 9), 2):
            self.assertEqual(likenesses((places, ()), (others, ())), [])
            self.assertEqual(likenesses(book_of("b" * places), book_of("b" * others)), [])
            self.assertEqual(likenesses(book_of("b" * places, "n" * places), book_of("b" * others)), [])

    def test_unlike_numbers_of_rows(self):
        for places in range(1, 6):
            row = "b" * places
            for one, other in itertools.permutations([(places, ()), book_of(row), book_of(row, row), book_of(*[row] * 10)], 2):
                self.assertEqual(likenesses(one, other), [])

    def test_no_room(self):
        for places in (6, 7, 8):
            row = "b" * places
            books = [(places, ()), book_of(row), book_of("n" * places), book_of(row, row), book_of(*[row] * 10)]
            for one, other in itertools.product(books, repeat=2):
                with self.assertRaises(NoRoom):
                    likenesses(one, other)

    def test_a_told_list_changed(self):
        book = book_of("nb", "bn")
        told = likenesses(book, book)
        wanted = list(told)
        told.clear()
        told.append(None)
        self.assertEqual(likenesses(book, book), wanted)
        self.assertIsNot(likenesses(book, book), likenesses(book, book))
        nothing = likenesses(book, book_of("nb"))
        nothing.append(None)
        self.assertEqual(likenesses(book, book_of("nb")), [])


class SameAnswers(unittest.TestCase):
    """Point 3: books that are carried have the same answers, carried."""

    def carried_books(self, seed, many):
        chance = chances(seed)
        for book in some_books(seed + 1, many, 8, 10):
            likeness = some_likeness(chance, book[0])
            yield book, likeness, carried_book(book, likeness)

    def test_fits_and_their_numbers(self):
        words = []
        for book, likeness, other in self.carried_books(108, 300):
            words.append(fit_told(book)[0])
            self.assertEqual(fit_told(other)[0], words[-1])
            self.assertEqual(many_fits(other), many_fits(book))
            if words[-1] == "fit":
                self.assertEqual(fewest_fit(other)[0], fewest_fit(book)[0])
        self.assertGreater(words.count("fit"), 60)
        self.assertGreater(words.count("barred"), 60)

    def test_links_and_what_is_sure_there(self):
        found = set()
        for book, (order, turned), other in self.carried_books(110, 300):
            links = {tuple(sorted((order.index(i), order.index(j)))): (i, j) for i, j in links_of(book)}
            self.assertEqual(links_of(other), sorted(links))
            if fit_told(book)[0] == "barred":
                continue
            for (first, second), (i, j) in links.items():
                word = sure_at(book, i, j)
                if (first in turned) != (second in turned):
                    word = {"even": "odd", "odd": "even", "either": "either"}[word]
                self.assertEqual(sure_at(other, first, second), word)
                found.add(word)
        self.assertEqual(found, {"even", "odd", "either"})


if __name__ == "__main__":
    unittest.main()
