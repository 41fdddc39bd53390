import copy
import itertools
import unittest

from hidhalves.checker import holds
from hidhalves.crossed import crossed
from hidhalves.crossings import crossing_of
from hidhalves.errors import NoRoom
from hidhalves.fewest import fewest
from hidhalves.fitnumbers import many_fits
from hidhalves.fits import fit_told, is_fit
from hidhalves.likenesses import carried_book, likenesses
from hidhalves.papers import paper_of_book, paper_of_family, paper_of_fewest, paper_of_halves, paper_of_many, paper_of_two
from hidhalves.trees import tree_of
from tests.things import all_texts, chances, some_books, some_family, some_likeness, some_text
from tests.trials import fewest_by_trial, fits_by_trial, many_choices

NAMES = "abcdefghij"
EIGHT_B = (8, tuple((name, "bbbbbbbb") for name in NAMES))
# Seven rows that each have a b at the first place and one at another: each choice of even and odd fits.
STAR = (8, tuple((NAMES[at], "b" + "n" * at + "b" + "n" * (6 - at)) for at in range(7)))


def book_of(*rows):
    return (len(rows[0]), tuple(zip(NAMES, rows)))


class PaperCase(unittest.TestCase):
    def paper(self, maker, *things):
        """(claim, paper), looked at: the checker takes it, the claim has what was handed in, and this stays."""
        before = copy.deepcopy(things)
        told = maker(*things)
        self.assertEqual(repr(things), repr(before))
        self.assertIs(type(told), tuple)
        claim, paper = told
        self.assertIs(type(claim), tuple)
        self.assertEqual(repr(claim[1:1 + len(things)]), repr(things))
        self.assertIs(holds(claim, paper), True, told)
        self.assertIsNot(maker(*things), told)
        self.assertEqual(maker(*things)[0], claim)
        return claim, paper


class OfHalves(PaperCase):
    def test_by_hand(self):
        self.assertEqual(self.paper(paper_of_halves, ("n", "y")), (("tree", ("n", "y")), (("n", "y"), (("n", "y", (0,)),))))
        square = ("yy", "nn", "yn", "ny")
        self.assertEqual(self.paper(paper_of_halves, square), (("crossing", square), (0, 1, ("nn", "ny", "yn", "yy"))))
        self.assertEqual(self.paper(paper_of_halves, ("ny", "ny")), (("tree", ("ny", "ny")), (("ny",), ())))

    def test_all_of_two_places(self):
        for many in (1, 2, 3, 4):
            for halves in itertools.product(all_texts("ny", 2), repeat=many):
                self.look_at(halves)

    def look_at(self, halves):
        claim, paper = self.paper(paper_of_halves, halves)
        crossing = crossing_of(halves)
        self.assertEqual(claim[0], "tree" if crossing is None else "crossing")
        self.assertEqual(paper, tree_of(halves) if crossing is None else crossing)
        return claim[0]

    def test_drawn_ones(self):
        chance = chances(151)
        words = []
        for _ in range(300):
            places = chance.randint(1, 8)
            few = [some_text(chance, "ny", places) for _ in range(chance.choice([2, 3, 5, 40]))]
            words.append(self.look_at(tuple(chance.choice(few) for _ in range(chance.randint(1, 40)))))
        self.assertGreater(min(words.count("tree"), words.count("crossing")), 50)


class OfBook(PaperCase):
    def test_by_hand(self):
        self.assertEqual(self.paper(paper_of_book, (3, ())), (("fit", (3, ())), ()))
        book = (2, (("a", "nb"), ("b", "yb")))
        self.assertEqual(self.paper(paper_of_book, book), (("barred", book), ("four", 0, 1, ("a", "a", "b", "b"))))

    def test_drawn_ones(self):
        words = []
        for book in some_books(152, 300, 8, 10):
            claim, paper = self.paper(paper_of_book, book)
            words.append(claim[0])
            self.assertEqual(claim, (fit_told(book)[0], book))
            self.assertIs(is_fit(book, paper), claim[0] == "fit")
        self.assertGreater(min(words.count("fit"), words.count("barred")), 60)

    def test_very_many_choices(self):
        for book in (EIGHT_B, STAR, (8, STAR[1] + (("j", "bbbbbbbb"),))):
            self.paper(paper_of_book, book)


class OfMany(PaperCase):
    def test_by_hand(self):
        self.assertEqual(self.paper(paper_of_many, (3, ())), (("many", (3, ()), 1), ((), (), ())))
        book = (2, (("a", "nb"), ("b", "yb")))
        self.assertEqual(self.paper(paper_of_many, book), (("many", book, 0), ("four", 0, 1, ("a", "a", "b", "b"))))
        book = (2, (("a", "bb"),))
        self.assertEqual(self.paper(paper_of_many, book)[0], ("many", book, 2))

    def test_drawn_ones(self):
        numbers = []
        for book in some_books(153, 300, 8, 10):
            claim, paper = self.paper(paper_of_many, book)
            self.assertEqual(claim, ("many", book, many_fits(book)))
            self.assertIs(type(claim[2]), int)
            numbers.append(claim[2])
            if many_choices(book) <= 200:
                self.assertEqual(claim[2], len(fits_by_trial(book)))
        for many in (0, 1, 2, 4, 8, 16):
            self.assertIn(many, numbers)

    def test_very_many_choices(self):
        for book, many in ((EIGHT_B, 128), (STAR, 128), ((8, STAR[1] + (("j", "bbbbbbbb"),)), 0)):
            self.assertEqual(self.paper(paper_of_many, book)[0][2], many)


class OfFewest(PaperCase):
    def test_by_hand(self):
        self.assertEqual(self.paper(paper_of_fewest, (3, ())), (("fewest", (3, ()), 0), ()))
        book = (3, (("a", "bbn"), ("b", "nbb")))
        self.assertEqual(self.paper(paper_of_fewest, book)[0], ("fewest", book, 3))

    def test_drawn_ones(self):
        rooms = []
        for book in some_books(154, 200, 7, 7):
            try:
                many = fewest(book)[0]
            except NoRoom:
                self.assertRaises(NoRoom, paper_of_fewest, book)
                rooms.append(False)
            else:
                self.assertEqual(self.paper(paper_of_fewest, book)[0], ("fewest", book, many))
                rooms.append(True)
        self.assertGreater(min(rooms.count(True), rooms.count(False)), 15)

    def test_no_room(self):
        self.paper(paper_of_fewest, book_of("bbbbbbbb", "nbbbnnnn"))
        self.paper(paper_of_fewest, EIGHT_B)
        for book in (book_of("bbbbbbbb", "nbbbbnnn"), book_of("bbbbbbbb", "nbbbnnnn", "nbbnnnnn")):
            self.assertRaises(NoRoom, paper_of_fewest, book)


class OfFamily(PaperCase):
    def test_by_hand(self):
        family = ("nbnb", "nbnb", ("nbyb", "nbbb"))
        self.assertEqual(self.paper(paper_of_family, family), (("never", family, 2), None))
        family = ("bb", "nn", ("bb", "nb"))
        self.assertEqual(self.paper(paper_of_family, family)[0], ("crossed", family, 1))

    def test_drawn_ones(self):
        chance = chances(155)
        words = []
        for _ in range(120):
            family = some_family(chance, 4, 0.15, "nbby")
            claim, paper = self.paper(paper_of_family, family)
            words.append(claim[0])
            self.assertEqual(claim[0], crossed(family)[0])
            self.assertEqual(claim[2], crossed(family)[1])
            if claim[0] == "crossed":
                self.assertEqual(claim[2], fewest_by_trial(family))
            else:
                self.assertIsNone(paper)
        self.assertGreater(min(words.count("crossed"), words.count("never")), 15)

    def test_eight_places_and_three_young_ones(self):
        chance = chances(156)
        for _ in range(15):
            self.paper(paper_of_family, some_family(chance, 8, 0.01, "nbby", least=8))
        self.paper(paper_of_family, ("bbbbbbbb", "bbbbbbbb", ("bbbbbbbb", "nbybnyyb", "ynnbbnby")))


class OfTwo(PaperCase):
    def test_by_hand(self):
        one, other = book_of("nby", "bbn"), (3, (("zed", "bnb"), ("a", "byy")))
        claim, paper = self.paper(paper_of_two, one, other)
        self.assertEqual(claim, ("alike", one, other))
        self.assertIn(paper, likenesses(one, other))
        self.assertIsNone(paper_of_two(book_of("nb"), book_of("nn")))

    def test_drawn_ones(self):
        chance = chances(157)
        alike = []
        for book in some_books(158, 150, 5, 6):
            other = carried_book(book, some_likeness(chance, book[0]))
            if chance.random() < 0.5:
                other = (other[0], tuple((name, some_text(chance, "nby", other[0])) for name, row in other[1]))
            alike.append(bool(likenesses(book, other)))
            if alike[-1]:
                claim, paper = self.paper(paper_of_two, book, other)
                self.assertEqual(claim[0], "alike")
                self.assertIn(paper, likenesses(book, other))
            else:
                self.assertIsNone(paper_of_two(book, other))
        self.assertGreater(min(alike.count(True), alike.count(False)), 30)

    def test_unlike_numbers_of_places_or_rows(self):
        for places, others in itertools.permutations(range(1, 9), 2):
            self.assertIsNone(paper_of_two((places, ()), (others, ())))
        self.assertIsNone(paper_of_two(book_of("nb", "nb"), book_of("nb")))

    def test_no_room(self):
        for places in (6, 7, 8):
            for one, other in itertools.product([(places, ()), book_of("b" * places), book_of("n" * places, "n" * places)], repeat=2):
                self.assertRaises(NoRoom, paper_of_two, one, other)
        self.paper(paper_of_two, (5, ()), (5, ()))


if __name__ == "__main__":
    unittest.main()
