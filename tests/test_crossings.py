import itertools
import unittest

from hidhalves.crossings import crossing_of
from tests.things import all_texts, chances, in_other_orders, some_text


def crossing_by_trial(halves):
    """The least of all right answers: places first, then each of the four."""
    for i, j in itertools.combinations(range(len(halves[0])), 2):
        showing = [[half for half in halves if half[i] + half[j] == pair] for pair in ("nn", "ny", "yn", "yy")]
        if all(showing):
            return (i, j, tuple(min(some) for some in showing))
    return None


class Crossing(unittest.TestCase):
    def test_one_half_row(self):
        for half in ("n", "y", "ny", "nynynyny"):
            self.assertIsNone(crossing_of((half,)))
            self.assertIsNone(crossing_of((half,) * 4))

    def test_half_rows_of_one_place(self):
        self.assertIsNone(crossing_of(("n", "y")))
        self.assertIsNone(crossing_of(("y", "n", "y", "n", "n")))

    def test_three_pairs_do_not_cross(self):
        pairs = ("nn", "ny", "yn", "yy")
        for three in itertools.permutations(pairs, 3):
            self.assertIsNone(crossing_of(three))
            self.assertIsNone(crossing_of(three + three))

    def test_four_pairs_cross(self):
        pairs = ("nn", "ny", "yn", "yy")
        for four in itertools.permutations(pairs):
            self.assertEqual(crossing_of(four), (0, 1, pairs))
            self.assertEqual(crossing_of(four + four[:2]), (0, 1, pairs))

    def test_the_least_places(self):
        self.assertEqual(crossing_of(("nnn", "nny", "nyn", "nyy")), (1, 2, ("nnn", "nny", "nyn", "nyy")))
        self.assertEqual(crossing_of(("nnn", "nny", "ynn", "yny")), (0, 2, ("nnn", "nny", "ynn", "yny")))
        self.assertEqual(crossing_of(tuple(all_texts("ny", 3))), (0, 1, ("nnn", "nyn", "ynn", "yyn")))
        # Places 1 and 2 cross, and so do 0 and 3: the lesser first place goes ahead.
        halves = ("ynnn", "ynny", "nnnn", "nnyy", "nynn", "nyyn")
        self.assertEqual(crossing_of(halves), (0, 3, ("nnnn", "nnyy", "ynnn", "ynny")))
        self.assertEqual(crossing_of(("nnnn", "nnyy", "nyny", "yyyn", "ynnn"))[:2], (0, 1))
        self.assertEqual(crossing_of(("nnnn", "nyyy", "yynn", "ynny"))[:2], (0, 1))
        self.assertEqual(crossing_of(("nnnn", "nnyy", "yynn", "yyyy"))[:2], (0, 2))
        self.assertEqual(crossing_of(("nnnnnnnn", "nnnnnnny", "nnnnnnyn", "nnnnnnyy"))[:2], (6, 7))

    def test_the_least_half_row_for_each_pair(self):
        halves = ("nyy", "nny", "nyn", "nnn", "yyy", "yny", "yyn", "ynn")
        self.assertEqual(crossing_of(halves), (0, 1, ("nnn", "nyn", "ynn", "yyn")))
        self.assertEqual(crossing_of(halves[:7]), (0, 1, ("nnn", "nyn", "yny", "yyn")))

    def test_kinds(self):
        told = crossing_of(("yy", "yn", "ny", "nn"))
        self.assertIsInstance(told, tuple)
        self.assertIsInstance(told[2], tuple)
        self.assertIsNot(told, crossing_of(("yy", "yn", "ny", "nn")))

    def test_all_half_rows_of_three_places(self):
        eight = all_texts("ny", 3)
        for many in range(1, 9):
            for some in itertools.combinations(eight, many):
                told = crossing_of(some)
                self.assertEqual(told, crossing_by_trial(some))
                self.assertEqual(crossing_of(some[::-1]), told)
                self.assertEqual(crossing_of(some + some[:1]), told)

    def test_two_to_ten_and_forty_some_twice_in_any_order(self):
        chance = chances(7)
        for turn in range(600):
            places = chance.randint(1, 8)
            many = 40 if turn % 20 == 0 else chance.randint(2, 10)
            pool = [some_text(chance, "nnny", places) for _ in range(many)]
            halves = tuple(chance.choice(pool) for _ in range(many))
            told = crossing_of(halves)
            self.assertEqual(told, crossing_by_trial(halves))
            for other in in_other_orders(halves, 5):
                self.assertEqual(crossing_of(other), told)
            self.assertEqual(crossing_of(halves[::-1]), told)


if __name__ == "__main__":
    unittest.main()
