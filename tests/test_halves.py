import unittest

from hidhalves.halves import fits_row, is_parting, other_half, row_by
from hidhalves.partings import partings_of
from tests.things import LikeAll, all_texts, odd_things

ROWS = [row for length in range(1, 5) for row in all_texts("bny", length)]
LONG = ["nnnnnnnn", "yynnyyny", "nbynynyy", "nbbybnyb", "bbbbbbbb"]


class IsParting(unittest.TestCase):
    def test_all_pairs_of_half_rows(self):
        for row in ROWS:
            if len(row) < 4:
                for one in all_texts("ny", len(row)):
                    for other in all_texts("ny", len(row)):
                        self.assertIs(is_parting(row, (one, other)), (one, other) in partings_of(row))

    def test_things_of_any_kind(self):
        for thing in odd_things() + [LikeAll(), ["nnn", "nyy"], ("nnn",), ("nnn", "nyy", "nyy"), ("nn", "ny"), ("nnnn", "nyyn"),
                                     ("nnx", "nyy"), ("nnb", "nyy"), ("nna", "nyo"), ("nyy", "nnn")]:
            self.assertIs(is_parting("nbb", thing), False)
            self.assertIs(is_parting("nbb", ("nnn", thing)), False)
            self.assertIs(is_parting("nbb", (thing, "nyy")), False)


class TheRowOfTwo(unittest.TestCase):
    def test_rows(self):
        self.assertEqual(row_by("n", "n"), "n")
        self.assertEqual(row_by("y", "y"), "y")
        self.assertEqual(row_by("n", "y"), "b")
        self.assertEqual(row_by("nnyy", "nyny"), "nbby")
        self.assertEqual(row_by("nnnnnnnn", "yyyyyyyy"), "bbbbbbbb")

    def test_either_way_about(self):
        for length in range(1, 5):
            for one in all_texts("ny", length):
                for other in all_texts("ny", length):
                    row = row_by(one, other)
                    self.assertEqual(row, row_by(other, one))
                    self.assertIn((min(one, other), max(one, other)), partings_of(row))

    def test_the_row_of_each_parting(self):
        for row in ROWS + LONG:
            for one, other in partings_of(row):
                self.assertEqual(row_by(one, other), row)
                self.assertEqual(row_by(other, one), row)


class Fitting(unittest.TestCase):
    def test_just_the_half_rows_in_partings_fit(self):
        for row in ROWS:
            fitting = [half for parting in partings_of(row) for half in parting]
            for length in range(1, 6):
                for half in all_texts("ny", length):
                    self.assertIs(fits_row(row, half), half in fitting)
                    self.assertEqual(other_half(row, half) is not None, half in fitting)

    def test_each_others_other_one(self):
        for row in ROWS + LONG:
            for one, other in partings_of(row):
                self.assertIs(fits_row(row, one), True)
                self.assertIs(fits_row(row, other), True)
                self.assertEqual(other_half(row, one), other)
                self.assertEqual(other_half(row, other), one)

    def test_examples(self):
        self.assertEqual(other_half("nby", "nny"), "nyy")
        self.assertEqual(other_half("nby", "nyy"), "nny")
        self.assertEqual(other_half("nyn", "nyn"), "nyn")
        self.assertIsNone(other_half("nby", "yny"))
        self.assertIsNone(other_half("nby", "nnn"))

    def test_shorter_and_longer_ones(self):
        for row, half in (("nbb", "nn"), ("nbb", "nnyy"), ("nbb", "n"), ("bbb", "n" * 8), ("b", "nn"), ("n" * 8, "n"),
                          ("n" * 8, "n" * 9), ("nbb", "")):
            self.assertIs(fits_row(row, half), False)
            self.assertIsNone(other_half(row, half))

    def test_things_of_other_kinds(self):
        things = ["nbb", "bbb", "NNN", "nny\n", b"nny", list("nny"), tuple("nny"), ("nnn", "nyy"), {"nny": 1}, 0, 3, LikeAll(),
                  [LikeAll()] * 3, "nn ", "nno"]
        for row in ("n", "b", "nbb", "bbb", "bbbbbbbb"):
            for thing in odd_things() + things:
                self.assertIs(fits_row(row, thing), False)
                self.assertIsNone(other_half(row, thing))

    def test_what_is_no_row_is_fitted_by_none(self):
        for thing in odd_things():
            for half in odd_things() + ["n", "y", "ny"]:
                self.assertIs(fits_row(thing, half), False)
                self.assertIsNone(other_half(thing, half))


if __name__ == "__main__":
    unittest.main()
