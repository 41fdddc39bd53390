import copy
import itertools
import unittest

from hidhalves.errors import NoRoom
from hidhalves.families import is_family, whole_tellings
from tests.things import LikeAll, all_texts, bent, chances, listed, odd_things, some_family, some_text
from tests.trials import partings_by_trial, row_by_trial

FAMILY = ("bbn", "nbb", ("nbn", "bbb"))


def tellings_by_trial(family):
    """Straight from the words of point 16, by going through all partings and half-rows."""
    one, other, young = family
    told = set()
    for a, b in itertools.product(partings_by_trial(one), partings_by_trial(other)):
        for given in itertools.product(itertools.product(a, b), repeat=len(young)):
            if all(row_by_trial(h, k) == row for row, (h, k) in zip(young, given)):
                told.add((a, b, given))
    return sorted(told)


class IsFamily(unittest.TestCase):
    def test_families(self):
        for places in range(1, 9):
            for many in (1, 2, 3):
                for mark in "nby":
                    row = mark * places
                    self.assertIs(is_family((row, row, (row,) * many)), True)
        self.assertIs(is_family(FAMILY), True)
        self.assertIs(is_family(("nbynbyby", "bbbbbbbb", ("nnnnnnnn", "yyyyyyyy", "nbynbyny"))), True)

    def test_all_rows_of_one_place(self):
        for rows in itertools.product("nby", repeat=4):
            self.assertIs(is_family((rows[0], rows[1], rows[2:])), True)

    def test_numbers_of_young_ones(self):
        self.assertIs(is_family(("n", "n", ())), False)
        self.assertIs(is_family(("n", "n", ("n",) * 4)), False)
        self.assertIs(is_family(("n", "n", ("n",) * 5)), False)

    def test_unlike_lengths(self):
        for lengths in itertools.product((1, 2, 3), repeat=4):
            one, other, first, second = ["b" * length for length in lengths]
            self.assertIs(is_family((one, other, (first, second))), len(set(lengths)) == 1)

    def test_lengths_beyond_the_limits(self):
        for row in ("", "n" * 9):
            self.assertIs(is_family((row, row, (row,))), False)

    def test_other_signs(self):
        for row in ("nbo", "NBY", "nb ", "nb\n", "n-y", "012", "   "):
            for family in ((row, "nbn", ("nnn",)), ("nbn", row, ("nnn",)), ("nbn", "nbn", (row,)), ("nbn", "nbn", ("nnn", row))):
                self.assertIs(is_family(family), False)

    def test_lists_longer_and_shorter_ones(self):
        for thing in listed(FAMILY) + [FAMILY[:2], FAMILY + ((),), FAMILY + ("nbn",), (FAMILY,), FAMILY[1:], FAMILY[::-1],
                                       FAMILY[:2] + FAMILY[2], ("bbn", "nbb", "nbn"), ("bbn", "nbb", {"nbn": 1}),
                                       ("bbn", "nbb", {"nbn"}), ("b", "n", "b"), "bnb", {"bbn": 1, "nbb": 2, "nbn": 3}]:
            self.assertIs(is_family(thing), False)

    def test_things_of_any_kind(self):
        for thing in odd_things() + [0, 1, 3, LikeAll(), (LikeAll(),) * 3, ("n", "n", LikeAll()), ("n", "n", (LikeAll(),))]:
            self.assertIs(is_family(thing), False)
        for thing in odd_things() + [0, LikeAll(), ["b", "b", "n"], ("b", "b", "n"), b"bbn"]:
            for other in bent(FAMILY, thing):
                self.assertIs(is_family(other), False)


class WholeTellings(unittest.TestCase):
    def test_one_place(self):
        self.assertEqual(whole_tellings(("n", "n", ("n",))), [(("n", "n"), ("n", "n"), (("n", "n"),))])
        self.assertEqual(whole_tellings(("b", "n", ("b",))), [(("n", "y"), ("n", "n"), (("y", "n"),))])
        self.assertEqual(whole_tellings(("b", "b", ("b",))), [
            (("n", "y"), ("n", "y"), (("n", "y"),)), (("n", "y"), ("n", "y"), (("y", "n"),))])
        self.assertEqual(whole_tellings(("n", "n", ("b",))), [])
        self.assertEqual(whole_tellings(("n", "b", ("n", "b", "y"))), [])

    def test_each_once_where_old_rows_have_no_b(self):
        self.assertEqual(whole_tellings(("ny", "yy", ("by", "by", "by"))), [
            (("ny", "ny"), ("yy", "yy"), (("ny", "yy"),) * 3)])

    def test_all_families_of_one_place(self):
        for one, other in itertools.product("nby", repeat=2):
            for many in (1, 2, 3):
                for young in itertools.product("nby", repeat=many):
                    self.assertEqual(whole_tellings((one, other, young)), tellings_by_trial((one, other, young)))

    def test_all_families_of_two_places_and_one_young_one(self):
        for one, other, young in itertools.product(all_texts("bny", 2), repeat=3):
            self.assertEqual(whole_tellings((one, other, (young,))), tellings_by_trial((one, other, (young,))))

    def test_small_families_by_trial(self):
        chance = chances(81)
        none = several = 0
        for _ in range(300):
            family = some_family(chance, 5, 0.1, "nbby")
            before = copy.deepcopy(family)
            told = whole_tellings(family)
            self.assertIs(type(told), list)
            self.assertEqual(repr(told), repr(tellings_by_trial(family)))
            self.assertEqual(told, sorted(set(told)))
            self.assertEqual(family, before)
            none += told == []
            several += len(told) > 1
        self.assertGreater(min(none, several), 20)

    def test_eight_places(self):
        family = ("bbbbnnnn", "nnnnbbbb", ("nnnnnnnn", "bnbnnbnb", "bbbbbbbb"))
        self.assertEqual(whole_tellings(family), tellings_by_trial(family))

    def test_room(self):
        """The pairs of partings are the product of both numbers."""
        for one, other, pairs in [("b" * 8, "bbnnnnnn", 256), ("bbbbbnnn", "bbbbbnyy", 256), ("b" * 8, "bbbnnnnn", 512),
                                  ("bbbbbbnn", "bbbbbnyy", 512), ("bbbnnnnn", "b" * 8, 512), ("b" * 8, "b" * 8, 2 ** 14),
                                  ("b" * 8, "nnnnnnnn", 128), ("nnnnnnnn", "b" * 8, 128), ("bbnnnnnn", "b" * 8, 256)]:
            young = (some_text(chances(82), "nby", 8),)
            if pairs > 256:
                with self.assertRaises(NoRoom):
                    whole_tellings((one, other, young))
            else:
                self.assertEqual(whole_tellings((one, other, young)), tellings_by_trial((one, other, young)))
                self.assertTrue(whole_tellings((one, other, (row_by_trial("n" * 8, other.replace("b", "n")),))))

    def test_a_told_list_changed(self):
        told = whole_tellings(FAMILY)
        self.assertEqual(told, tellings_by_trial(FAMILY))
        told.clear()
        told.append(None)
        self.assertEqual(whole_tellings(FAMILY), tellings_by_trial(FAMILY))


if __name__ == "__main__":
    unittest.main()
