"""The checker's claims of a family and of two books: crossed, never and alike."""

import itertools
import unittest

from hidhalves.crossed import crossed
from hidhalves.likenesses import carried_book
from tests.takings import CheckerCase
from tests.things import LikeAll, all_texts, chances, no_likenesses, odd_things, some_books, some_family, some_likeness, some_text
from tests.trials import are_carried_to, crossings_in, fewest_by_trial, likenesses_of, never_by_trial, row_by_trial, young_by

NAMES = "abcdefghij"
# One crossing is needed between the first two places, and one between the last two.
FAMILY = ("bbnn", "nnbb", ("bbbb", "nbnb"))
TELLING = (("nnnn", "yynn"), ("nnnn", "nnyy"), (("1111", "1111"), ("0111", "0001")))
NO_FAMILIES = (None, (), FAMILY[:2], list(FAMILY), FAMILY[:2] + (list(FAMILY[2]),), FAMILY[:2] + ((),), FAMILY[:2] + (("bbbb",) * 4,),
               FAMILY[:2] + (("bbbb", "nbn"),), ("bbnn", "nnb", FAMILY[2]), ("bbn", "nnbb", FAMILY[2]), ("bbon", "nnbb", FAMILY[2]),
               ("bbnn", "nnob", FAMILY[2]), FAMILY[:2] + (("bbbb", "nbno"),), FAMILY + ((),), FAMILY[:2] + ("bbbb",), (None,) + FAMILY[1:],
               ("bbnn", None, FAMILY[2]), FAMILY[:2] + (("bbbb", None),), ("", "", ("",)), ("n" * 9, "n" * 9, ("n" * 9,)))


def is_telling(family, telling):
    """Straight from the words of point 17."""
    one, other, young = family
    a, b, ways = telling
    if row_by_trial(*a) != one or row_by_trial(*b) != other:
        return False
    return len(ways) == len(young) and all(young_by(a, b, *way) == row for way, row in zip(ways, young))


class Crossed(CheckerCase):
    def test_good_ones(self):
        one, other, ways = TELLING
        self.take(("crossed", FAMILY, 2), TELLING)
        self.take(("crossed", FAMILY, 2), (one[::-1], other, (("0000", "1111"), ("1000", "0001"))))
        self.take(("crossed", FAMILY, 2), (one, other[::-1], (("1111", "0000"), ("0111", "1110"))))
        self.take(("crossed", FAMILY, 2), (("nynn", "ynnn"), other, (("1000", "1111"), ("0000", "0001"))))
        self.take(("crossed", ("n", "n", ("n",)), 0), (("n", "n"), ("n", "n"), (("0", "1"),)))
        self.take(("crossed", ("bb", "nn", ("bb", "nb")), 1), (("nn", "yy"), ("nn", "nn"), (("11", "00"), ("01", "11"))))

    def test_what_is_no_family(self):
        for family in NO_FAMILIES:
            self.leave(("crossed", family, 2), TELLING)

    def test_no_young_ones_or_four(self):
        for many in range(5):
            telling = (("n", "n"), ("n", "n"), (("0", "1"),) * many)
            (self.take if 1 <= many <= 3 else self.leave)(("crossed", ("n", "n", ("n",) * many), 0), telling)
            (self.take if 1 <= many <= 3 else self.leave)(("never", ("n", "n", ("y",) * many), 0), None)

    def test_half_rows_of_other_rows(self):
        one, other, ways = TELLING
        for wrong in (("nnnn", "nynn"), ("nnnn", "yyyn"), ("nnnn", "nnnn"), ("nnnn",), ("nnnn", "yynn", "yynn"), ("nnn", "yyn"), ("nnnnn", "yynnn"),
                      ("nnnn", "bbnn"), list(one), None, "nn", ("bbnn", "bbnn"), (None, "yynn")):
            self.leave(("crossed", FAMILY, 2), (wrong, other, ways))
        for wrong in (("nnnn", "nnyn"), ("nnnn", "nnnn"), ("nnyy",), list(other), None, one):
            self.leave(("crossed", FAMILY, 2), (one, wrong, ways))
        # The young one has its marks by these too, but they don't part the old row.
        self.take(("crossed", ("bb", "nn", ("bb",)), 0), (("nn", "yy"), ("nn", "nn"), (("11", "00"),)))
        for wrong in ("yn", "ny", "yy", "bb", "n", "nnn", None):
            self.leave(("crossed", ("bb", "nn", ("bb",)), 0), ((wrong, "yy"), ("nn", "nn"), (("11", "00"),)))
            self.leave(("crossed", ("bb", "nn", ("bb",)), 0), (("nn", "yy"), ("nn", wrong), (("11", "00"),)))

    def test_ways(self):
        one, other, ways = TELLING
        for wrong in (ways[:1], ways + ways[1:], ways[::-1], (), list(ways), None):
            self.leave(("crossed", FAMILY, 2), (one, other, wrong))
        for wrong in (list(ways[0]), ways[0] + ("0000",), ways[0][:1], ("111", "111"), ("11111", "11111"), ("1111", "111"), ("1121", "1111"),
                      ("11111", "1111"), ("1111", "11111"), ("111", "1111"), ("111y", "1111"), ("111 ", "1111"), ("11-1", "1111"), (1111, "1111"), ((1, 1, 1, 1), "1111"), (["1"] * 4, "1111"),
                      (("1",) * 4, "1111"), (None, "1111"), "11", None, ("0000", "1111"), ("1111", "0000")):
            self.leave(("crossed", FAMILY, 2), (one, other, (wrong, ways[1])))

    def test_other_numbers(self):
        for many in (0, 1, 3, 4, -2, None, "2", (2,), 10 ** 30, True):
            self.leave(("crossed", FAMILY, many), TELLING)
        self.leave(("crossed", ("bb", "nn", ("bb", "nb")), True), (("nn", "yy"), ("nn", "nn"), (("11", "00"), ("01", "11"))))
        self.leave(("crossed", ("n", "n", ("n",)), False), (("n", "n"), ("n", "n"), (("0", "1"),)))

    def test_a_telling_that_has_more(self):
        more = (TELLING[0], TELLING[1], (("1110", "1111"), ("0111", "0001")))
        for many in (2, 3):
            self.leave(("crossed", FAMILY, many), more)
        # The old rows parted otherwise would need no crossing.
        self.leave(("crossed", ("bb", "nn", ("nb",)), 1), (("nn", "yy"), ("nn", "nn"), (("01", "00"),)))
        self.take(("crossed", ("bb", "nn", ("nb",)), 0), (("ny", "yn"), ("nn", "nn"), (("00", "00"),)))

    def test_other_parts(self):
        for paper in (None, (), TELLING[:2], TELLING + ((),), list(TELLING), (TELLING,), ("crossed", 2, TELLING)):
            self.leave(("crossed", FAMILY, 2), paper)

    def test_all_tellings_of_two_places_and_one_young_one(self):
        halves, texts = list(itertools.product(all_texts("ny", 2), repeat=2)), list(itertools.product(all_texts("01", 2), repeat=2))
        taken = 0
        for family in (("bb", "nn", ("nb",)), ("bb", "nb", ("yb",)), ("ny", "bb", ("bb",)), ("bb", "bb", ("nn",)), ("nn", "nb", ("nb",)),
                       ("bb", "bb", ("bb",)), ("nn", "yy", ("bb",))):
            least = fewest_by_trial(family)
            for a, b, way in itertools.product(halves, halves, texts):
                telling, many = (a, b, (way,)), crossings_in(way[0]) + crossings_in(way[1])
                good = is_telling(family, telling) and many == least
                self.assertIs(self.ask(("crossed", family, many), telling), good)
                taken += good
        self.assertGreater(taken, 20)

    def test_drawn_families(self):
        chance = chances(141)
        found = []
        for _ in range(150):
            family = some_family(chance, 4, 0.03, "nbby")
            told = crossed(family)
            if told[0] == "never":
                continue
            word, many, telling = told
            found.append(many)
            self.take(("crossed", family, many), telling)
            self.leave_bent(chance, family, many, telling)
        self.assertGreater(found.count(0), 20)
        self.assertGreater(len(found) - found.count(0), 20)

    def leave_bent(self, chance, family, many, telling):
        """One sign of one way is turned: taken just where it still is a telling without more crossings."""
        a, b, ways = telling
        for at, way in enumerate(ways):
            for which, text in enumerate(way):
                place = chance.randrange(len(text))
                turned = text[:place] + ("1" if text[place] == "0" else "0") + text[place + 1:]
                other = (turned, way[1]) if which == 0 else (way[0], turned)
                more = ways[:at] + (other,) + ways[at + 1:]
                still = sum(crossings_in(text) for way in more for text in way)
                good = is_telling(family, (a, b, more)) and still == many
                self.assertIs(self.ask(("crossed", family, many), (a, b, more)), good)
                self.assertIs(self.ask(("crossed", family, still), (a, b, more)), good)

    def test_eight_places_and_three_young_ones(self):
        chance = chances(142)
        for _ in range(15):
            family = some_family(chance, 8, 0, "nbby", least=8)
            word, many, telling = crossed(family)
            self.take(("crossed", family, many), telling)
            self.leave(("crossed", family, many + 1), telling)
            self.leave(("never", family, 0), None)


class Never(CheckerCase):
    FAMILY = ("nbnb", "nbnb", ("nbyb", "ybbb"))

    def test_the_first_such_place(self):
        self.take(("never", self.FAMILY, 0), None)
        self.take(("never", ("nbnb", "nbnb", ("nbyb", "nbbb")), 2), None)
        self.take(("never", ("n", "y", ("n",)), 0), None)
        self.take(("never", ("nnnnnnnn", "nnnnnnnn", ("nnnnnnnb",)), 7), None)

    def test_other_places(self):
        for place in (1, 2, 3, 4, -1, -4, None, False, "0", (0,), 10 ** 30):
            self.leave(("never", self.FAMILY, place), None)
        self.leave(("never", ("nn", "nn", ("ny",)), True), None)
        self.take(("never", ("nn", "nn", ("ny",)), 1), None)

    def test_a_paper(self):
        for paper in odd_things():
            if paper is not None:
                self.leave_any(("never", self.FAMILY, 0), paper)

    def test_what_is_no_family(self):
        for family in NO_FAMILIES:
            for place in (0, 1, None):
                self.leave(("never", family, place), None)

    def test_families_that_have_tellings(self):
        for place in range(-1, 5):
            self.leave(("never", FAMILY, place), None)

    def test_all_families_of_one_place_and_drawn_ones(self):
        chance = chances(143)
        families = [(one, other, young) for one, other in itertools.product("nby", repeat=2)
                    for many in (1, 2, 3) for young in itertools.product("nby", repeat=many)]
        families += [some_family(chance, 8, 0.05, "nnyb") for _ in range(200)]
        found = set()
        for family in families:
            first = never_by_trial(family)
            found.add(first)
            for place in range(len(family[0]) + 1):
                self.assertIs(self.ask(("never", family, place), None), place == first)
        self.assertGreater(len(found), 5)


def book_of(*rows):
    return (len(rows[0]), tuple(zip(NAMES, rows)))


class Alike(CheckerCase):
    ONE, OTHER = book_of("nby", "bbn"), (3, (("zed", "bnb"), ("a", "byy")))
    GOOD = ((1, 2, 0), (2,))

    def test_good_ones(self):
        self.take(("alike", self.ONE, self.OTHER), self.GOOD)
        self.take(("alike", self.ONE, self.ONE), ((0, 1, 2), ()))
        self.take(("alike", book_of("b"), book_of("b")), ((0,), (0,)))
        for places in range(1, 9):
            self.take(("alike", (places, ()), (places, ())), (tuple(range(places)), (places - 1,)))

    def test_what_is_no_book(self):
        for book in (None, (), list(self.ONE), (3, list(self.ONE[1])), (True, ()), (0, ()), (9, ()), (3, (("a", "nby"), ("a", "bbn"))),
                     (3, (("a", "nby"), ("b", "bb"))), (3, (("a", "nby"), ("b", "bbo")))):
            self.leave(("alike", book, self.OTHER), self.GOOD)
            self.leave(("alike", self.ONE, book), self.GOOD)
            self.leave(("alike", book, book), self.GOOD)
        self.leave(("alike", (True, ()), (1, ())), ((0,), ()))

    def test_what_is_no_likeness(self):
        for places in range(1, 9):
            for book in ((places, ()), book_of("b" * places)):
                for thing in odd_things() + no_likenesses(places):
                    self.leave_any(("alike", book, book), thing)

    def test_unlike_places(self):
        for places, others in itertools.permutations(range(1, 9), 2):
            for likeness in ((tuple(range(places)), ()), (tuple(range(others)), ())):
                self.leave(("alike", (places, ()), (others, ())), likeness)
                self.leave(("alike", book_of("b" * places), book_of("b" * others)), likeness)

    def test_alike_rows_as_often(self):
        same = ((0, 1), ())
        self.take(("alike", book_of("nn", "nn", "bb"), book_of("nn", "bb", "nn")), same)
        self.leave(("alike", book_of("nn", "nn", "bb"), book_of("nn", "bb", "bb")), same)
        self.leave(("alike", book_of("nn", "nn"), book_of("nn")), same)
        self.leave(("alike", book_of("nn"), book_of("nn", "nn")), same)
        self.leave(("alike", book_of("nn"), (2, ())), same)
        self.leave(("alike", (2, ()), book_of("nn")), same)

    def test_the_other_way_round(self):
        self.leave(("alike", self.OTHER, self.ONE), self.GOOD)
        self.take(("alike", self.OTHER, self.ONE), ((2, 0, 1), (0,)))

    def test_all_likenesses_of_three_places(self):
        chance = chances(144)
        taken = 0
        for book in some_books(145, 60, 3, 5):
            other = (book[0], tuple(reversed(carried_book(book, some_likeness(chance, book[0]))[1])))
            bent = (book[0], tuple((name, some_text(chance, "nby", book[0])) if chance.random() < 0.2 else (name, row) for name, row in other[1]))
            for likeness in likenesses_of(book[0]):
                for beside in (other, bent):
                    good = are_carried_to(book, likeness, beside)
                    self.assertIs(self.ask(("alike", book, beside), likeness), good)
                    taken += good
        self.assertGreater(taken, 100)

    def test_six_to_eight_places(self):
        chance = chances(146)
        for places in (6, 7, 8):
            for many in (1, 4, 10):
                book = book_of(*[some_text(chance, "nby", places) for _ in range(many)])
                likeness = some_likeness(chance, places)
                rows = [row for name, row in carried_book(book, likeness)[1]]
                chance.shuffle(rows)
                other = (places, tuple(zip(chance.sample(["k", "l", "mo", "n", "o", "p", "q", "r", "s", "zed"], many), rows)))
                self.take(("alike", book, other), likeness)
                wrong = some_likeness(chance, places)
                self.assertIs(self.ask(("alike", book, other), wrong), are_carried_to(book, wrong, other))

    def test_a_likeness_in_the_place_of_a_book(self):
        self.leave(("alike", self.GOOD, self.GOOD), self.GOOD)
        self.leave(("alike", self.ONE, LikeAll()), self.GOOD)


if __name__ == "__main__":
    unittest.main()
