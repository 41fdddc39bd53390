import unittest

from hidhalves.errors import NoNumber, NoParting
from hidhalves.partings import many_partings, number_of, parting_at, partings_of
from tests.things import LikeAll, all_texts, odd_things

ROWS = [row for length in range(1, 5) for row in all_texts("bny", length)]
LONG = ["nnnnnnnn", "yynnyyny", "nbynynyy", "bnnnnnny", "nnnnnnnb", "nbbybnyb", "bbbbbbbn", "ybbbbbbb", "bbbbbbbb"]


def parts(row, one, other):
    """Straight from the words of point 6."""
    if one > other:
        return False
    return all(a != b if sign == "b" else a == b == sign for sign, a, b in zip(row, one, other))


def partings_by_trial(row):
    halves = all_texts("ny", len(row))
    return [(one, other) for one in halves for other in halves if parts(row, one, other)]


class Listed(unittest.TestCase):
    def test_rows_without_b(self):
        self.assertEqual(partings_of("n"), [("n", "n")])
        self.assertEqual(partings_of("y"), [("y", "y")])
        self.assertEqual(partings_of("nynynyny"), [("nynynyny", "nynynyny")])

    def test_rows_with_one_b(self):
        self.assertEqual(partings_of("b"), [("n", "y")])
        self.assertEqual(partings_of("nyb"), [("nyn", "nyy")])
        self.assertEqual(partings_of("yby"), [("yny", "yyy")])

    def test_rows_with_more(self):
        self.assertEqual(partings_of("bb"), [("nn", "yy"), ("ny", "yn")])
        self.assertEqual(partings_of("bnb"), [("nnn", "yny"), ("nny", "ynn")])
        self.assertEqual(partings_of("bbb"), [("nnn", "yyy"), ("nny", "yyn"), ("nyn", "yny"), ("nyy", "ynn")])

    def test_all_small_rows_by_trial(self):
        for row in ROWS:
            self.assertEqual(partings_of(row), partings_by_trial(row), row)

    def test_long_rows(self):
        for row in LONG:
            told = partings_of(row)
            self.assertIsInstance(told, list)
            self.assertEqual(told, sorted(set(told)))
            self.assertEqual(len(told), 2 ** max(0, row.count("b") - 1))
            for parting in told:
                self.assertIsInstance(parting, tuple)
                self.assertTrue(parts(row, *parting))

    def test_the_list_is_new_each_time(self):
        told = partings_of("bbn")
        told[0] = None
        told.clear()
        told.append("x")
        self.assertEqual(partings_of("bbn"), [("nnn", "yyn"), ("nyn", "ynn")])
        self.assertIsNot(partings_of("bbn")[0], partings_of("bbn")[0])


class Counted(unittest.TestCase):
    def test_how_many(self):
        self.assertEqual([many_partings("b" * many + "n") for many in range(8)], [1, 1, 2, 4, 8, 16, 32, 64])
        self.assertEqual(many_partings("bbbbbbbb"), 128)
        self.assertEqual(many_partings("yyyyyyyy"), 1)
        for row in ROWS + LONG:
            self.assertEqual(many_partings(row), len(partings_of(row)))
            self.assertIs(type(many_partings(row)), int)


class Numbered(unittest.TestCase):
    def test_each_number_and_back(self):
        for row in ROWS + LONG:
            for number, parting in enumerate(partings_of(row)):
                self.assertEqual(parting_at(row, number), parting)
                self.assertIsInstance(parting_at(row, number), tuple)
                self.assertEqual(number_of(row, parting), number)
                self.assertIs(type(number_of(row, parting)), int)

    def test_no_number(self):
        for row in ("n", "ny", "b", "nbn", "bb", "bbbbbbbb"):
            many = len(partings_of(row))
            for thing in odd_things() + [many, many + 1, -many, 128, [0], (0,), "0", b"0", {0: 0}]:
                with self.assertRaises(NoNumber, msg=row):
                    parting_at(row, thing)

    def test_halves_exchanged(self):
        for row in ("b", "bb", "nb", "nbyb", "bbbbbbbb"):
            for one, other in partings_of(row):
                with self.assertRaises(NoParting):
                    number_of(row, (other, one))

    def test_halves_of_another_row(self):
        for row in ROWS:
            if len(row) == 3:
                right = partings_by_trial(row)
                for one in all_texts("ny", 3):
                    for other in all_texts("ny", 3):
                        if (one, other) not in right:
                            with self.assertRaises(NoParting):
                                number_of(row, (one, other))

    def test_halves_of_another_length(self):
        for thing in [("n", "y"), ("nn", "ny"), ("nnnn", "nyyn"), ("nnn", "nyyn"), ("", ""), ("nnn", "")]:
            with self.assertRaises(NoParting):
                number_of("nbb", thing)

    def test_no_parting_of_any_kind(self):
        right = ("nnn", "nyy")
        self.assertEqual(number_of("nbb", right), 0)
        things = [list(right), right + ("nnn",), right[:1], "nnnnyy", {"nnn": "nyy"}, set(right), ["nnn", "nyy"],
                  (right,), (right, right), (list("nnn"), "nyy"), ("nnn", list("nyy")), (b"nnn", b"nyy"), (tuple("nnn"), "nyy"),
                  ("nnn", LikeAll()), (LikeAll(), "nyy"), ("nnn", None), (None, "nyy"), ("NNN", "NYY"), ("nbb", "nbb"), 0, 1]
        for thing in odd_things() + things:
            with self.assertRaises(NoParting):
                number_of("nbb", thing)
        for thing in odd_things():
            for made in ((thing, "nyy"), ("nnn", thing), (thing, thing)):
                with self.assertRaises(NoParting):
                    number_of("nbb", made)


if __name__ == "__main__":
    unittest.main()
