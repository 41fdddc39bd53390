import copy
import itertools
import unittest

from hidhalves.errors import NoPlace
from hidhalves.seen import seen_at
from tests.things import all_texts, chances, odd_things, some_text
from tests.trials import PAIRS, seen_by_trial


class Seen(unittest.TestCase):
    def test_two_marks(self):
        for pair in PAIRS:
            self.assertEqual(seen_at((2, (("a", pair),)), 0, 1), ((pair, "a"),))

    def test_a_mark_and_a_b(self):
        self.assertEqual(seen_at((2, (("a", "nb"),)), 0, 1), (("nn", "a"), ("ny", "a")))
        self.assertEqual(seen_at((2, (("a", "yb"),)), 0, 1), (("yn", "a"), ("yy", "a")))
        self.assertEqual(seen_at((2, (("a", "bn"),)), 0, 1), (("nn", "a"), ("yn", "a")))
        self.assertEqual(seen_at((2, (("a", "by"),)), 0, 1), (("ny", "a"), ("yy", "a")))

    def test_two_b(self):
        self.assertEqual(seen_at((2, (("a", "bb"),)), 0, 1), ())
        self.assertEqual(seen_at((3, (("a", "bnb"), ("b", "byb"))), 0, 2), ())

    def test_a_book_of_no_rows(self):
        self.assertEqual(seen_at((2, ()), 0, 1), ())
        self.assertEqual(seen_at((8, ()), 3, 7), ())

    def test_the_first_row_where_several_show_a_pair(self):
        book = (2, (("z", "bb"), ("y", "ny"), ("x", "nb"), ("a", "nn"), ("b", "bn"), ("c", "yy")))
        self.assertEqual(seen_at(book, 0, 1), (("nn", "x"), ("ny", "y"), ("yn", "b"), ("yy", "c")))
        self.assertEqual(seen_at((2, (("a", "nn"), ("b", "nn"))), 0, 1), (("nn", "a"),))
        self.assertEqual(seen_at((2, (("b", "nn"), ("a", "nn"))), 0, 1), (("nn", "b"),))

    def test_other_places_do_not_matter(self):
        book = (4, (("a", "nbby"), ("c", "ynbb")))
        self.assertEqual(seen_at(book, 0, 3), (("ny", "a"), ("yn", "c"), ("yy", "c")))
        self.assertEqual(seen_at(book, 0, 1), (("nn", "a"), ("ny", "a"), ("yn", "c")))
        self.assertEqual(seen_at(book, 1, 2), (("nn", "c"), ("ny", "c")))
        self.assertEqual(seen_at(book, 2, 3), (("ny", "a"), ("yy", "a")))

    def test_all_rows_of_three_places(self):
        for row in all_texts("bny", 3):
            for i, j in itertools.combinations(range(3), 2):
                book = (3, (("a", row),))
                self.assertEqual(seen_at(book, i, j), seen_by_trial(book, i, j))

    def test_books_by_trial(self):
        chance = chances(19)
        for _ in range(150):
            places = chance.randint(2, 6)
            names = chance.sample("abcdefghij", chance.randint(0, 10))
            book = (places, tuple((name, some_text(chance, "nby", places)) for name in names))
            before = copy.deepcopy(book)
            for i, j in itertools.combinations(range(places), 2):
                told = seen_at(book, i, j)
                self.assertEqual(told, seen_by_trial(book, i, j))
                self.assertEqual(list(told), sorted(told))
                self.assertIsInstance(told, tuple)
                self.assertTrue(all(isinstance(pair, tuple) for pair in told))
            self.assertEqual(book, before)

    def test_the_last_places(self):
        book = (8, (("a", "bbbbbbny"),))
        self.assertEqual(seen_at(book, 6, 7), (("ny", "a"),))
        self.assertEqual(seen_at(book, 0, 7), (("ny", "a"), ("yy", "a")))

    def test_no_place(self):
        book = (3, (("a", "nby"), ("b", "yyb")))
        wrong = [(0, 0), (1, 1), (2, 2), (1, 0), (2, 0), (2, 1), (-1, 0), (-1, 1), (-2, -1), (-3, 2), (0, -1), (0, 3), (1, 3),
                 (2, 3), (3, 4), (0, 8), (0, 10 ** 30), (-10 ** 30, 1), (False, True), (False, 1), (0, True), (True, 2),
                 ("0", "1"), ("0", 1), (0, "1"), (None, None), ([0], [1]), ((0, 1), (0, 1)), (b"0", b"1")]
        for i, j in wrong:
            for standing in (book, (3, ())):
                with self.assertRaises(NoPlace, msg=(i, j)):
                    seen_at(standing, i, j)
        for thing in odd_things():
            for i, j in ((thing, 1), (thing, 2), (0, thing), (1, thing), (thing, thing)):
                with self.assertRaises(NoPlace):
                    seen_at(book, i, j)

    def test_a_book_of_one_place_has_no_two(self):
        for i, j in ((0, 0), (0, 1), (-1, 0)):
            with self.assertRaises(NoPlace):
                seen_at((1, (("a", "b"),)), i, j)


if __name__ == "__main__":
    unittest.main()
