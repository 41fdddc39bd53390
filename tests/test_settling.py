import copy
import itertools
import unittest

from hidhalves.errors import NoHalf, NoOrder, NoRoom
from hidhalves.settling import best_order, settled
from tests.things import LikeAll, all_texts, bent, chances, listed, odd_things, some_books
from tests.trials import partings_by_trial

BOOK = (3, (("ann", "bbn"), ("bob", "nbb"), ("cy", "yyb")))
KNOWN = ("nnn",)
ORDER = ("ann", "bob", "cy")


def settled_by_trial(book, known, order):
    """Straight from the words of point 14, by going through all partings."""
    rows, now, steps = dict(book[1]), set(known), []
    while True:
        done = {name for name, half, other in steps}
        fitting = [(name, half) for name in order if name not in done for half in sorted(now)
                   if any(half in parting for parting in partings_by_trial(rows[name]))]
        if not fitting:
            return steps, [name for name in order if name not in done]
        name, half = fitting[0]
        parting = [parting for parting in partings_by_trial(rows[name]) if half in parting][0]
        other = parting[1] if parting[0] == half else parting[0]
        steps.append((name, half, other))
        now.add(other)


def some_known(chance, places):
    halves = all_texts("ny", places)
    return tuple(sorted(chance.sample(halves, min(len(halves), chance.choice([0, 1, 1, 1, 2, 3])))))


class Settled(unittest.TestCase):
    def test_nothing_known(self):
        self.assertEqual(settled(BOOK, (), ORDER), ([], ["ann", "bob", "cy"]))
        self.assertEqual(settled(BOOK, (), ("cy", "ann", "bob")), ([], ["cy", "ann", "bob"]))

    def test_no_rows(self):
        self.assertEqual(settled((3, ()), (), ()), ([], []))
        self.assertEqual(settled((3, ()), ("nny", "yyy"), ()), ([], []))

    def test_some_are_settled(self):
        self.assertEqual(settled(BOOK, ("nnn",), ORDER), (
            [("ann", "nnn", "yyn"), ("bob", "nnn", "nyy"), ("cy", "yyn", "yyy")], []))
        self.assertEqual(settled(BOOK, ("nnn",), ("cy", "bob", "ann")), (
            [("bob", "nnn", "nyy"), ("ann", "nnn", "yyn"), ("cy", "yyn", "yyy")], []))
        self.assertEqual(settled(BOOK, ("yyy",), ORDER), ([("cy", "yyy", "yyn"), ("ann", "yyn", "nnn"), ("bob", "nnn", "nyy")], []))
        self.assertEqual(settled(BOOK, ("nny",), ("cy", "bob", "ann")), (
            [("bob", "nny", "nyn"), ("ann", "nyn", "ynn")], ["cy"]))

    def test_none_is_settled(self):
        self.assertEqual(settled(BOOK, ("yny",), ("cy", "ann", "bob")), ([], ["cy", "ann", "bob"]))

    def test_the_least_known_half_row(self):
        book = (2, (("a", "bb"),))
        self.assertEqual(settled(book, ("nn", "ny"), ("a",)), ([("a", "nn", "yy")], []))
        self.assertEqual(settled(book, ("ny", "yy"), ("a",)), ([("a", "ny", "yn")], []))
        self.assertEqual(settled(book, ("yn", "yy"), ("a",)), ([("a", "yn", "ny")], []))

    def test_what_becomes_known_may_be_the_least(self):
        book = (3, (("a", "ybb"), ("c", "bby"), ("d", "bbb")))
        self.assertEqual(settled(book, ("yyy",), ("a", "c", "d"))[0],
                         [("a", "yyy", "ynn"), ("c", "yyy", "nny"), ("d", "nny", "yyn")])

    def test_the_first_row_each_time(self):
        """The first of the order, passed over for lack of a half-row, is taken as soon as one fits."""
        book = (2, (("a", "yb"), ("c", "bn"), ("d", "nn"), ("e", "nb")))
        self.assertEqual(settled(book, ("nn",), ("a", "c", "d", "e"))[0],
                         [("c", "nn", "yn"), ("a", "yn", "yy"), ("d", "nn", "nn"), ("e", "nn", "ny")])

    def test_rows_without_b_and_alike_ones(self):
        book = (2, (("a", "ny"), ("c", "ny"), ("d", "yy")))
        self.assertEqual(settled(book, ("ny",), ("d", "c", "a")), ([("c", "ny", "ny"), ("a", "ny", "ny")], ["d"]))

    def test_books_by_trial(self):
        chance = chances(71)
        for book in some_books(72, 400, 5, 6):
            known = some_known(chance, book[0])
            order = tuple(chance.sample([name for name, row in book[1]], len(book[1])))
            before = copy.deepcopy((book, known, order))
            told = settled(book, known, order)
            self.assertEqual([type(told), type(told[0]), type(told[1])], [tuple, list, list])
            self.assertEqual(told, settled_by_trial(book, known, order))
            self.assertTrue(all(type(step) is tuple for step in told[0]))
            self.assertEqual((book, known, order), before)

    def test_told_lists_changed(self):
        steps, left = settled(BOOK, ("nny",), ORDER)
        steps.clear()
        left.append("x")
        self.assertEqual(settled(BOOK, ("nny",), ORDER), ([("bob", "nny", "nyn"), ("ann", "nyn", "ynn")], ["cy"]))

    def test_no_half(self):
        wrong = [["nnn"], ["nnn", "yyy"], [], {"nnn"}, {"nnn": 1}, frozenset(), "nnn", "", None, True, False, 0, ("nnn", "nnn"),
                 ("yyy", "nnn"), ("nnn", "yyy", "nyn"), ("nnn", "nny", "nny"), ("nn",), ("nnnn",), ("",), ("nbn",), ("bbb",),
                 ("nnn", "nbn"), ("NNN",), ("nn\n",), (True,), (None,), (0,), ("nnn", None), (("nnn",),), (["n", "n", "n"],),
                 (b"nnn",), ("nnn", 1), (LikeAll(),), ("nnn", LikeAll()), LikeAll(), ("nno",)]
        wrong += [thing for thing in odd_things() if not (isinstance(thing, tuple) and thing == ())]
        for thing in wrong + [(thing,) for thing in odd_things()] + [("nnn", thing) for thing in odd_things()]:
            for book in (BOOK, (3, ())):
                names = tuple(name for name, row in book[1])
                with self.assertRaises(NoHalf):
                    settled(book, thing, names)
                with self.assertRaises(NoHalf):
                    best_order(book, thing)

    def test_no_order(self):
        wrong = [(), ("ann",), ("ann", "bob"), ("ann", "bob", "bob"), ("ann", "bob", "cy", "cy"), ("ann", "bob", "dee"),
                 ("ann", "bob", "cy", "dee"), ("ann", "bob", "Cy"), ("ann", "bob", ""), (("ann", "bob", "cy"),), "ann bob cy",
                 {"ann", "bob", "cy"}, {"ann": 1, "bob": 2, "cy": 3}, None, True, 3, ("ann", "bob", None), (b"ann", b"bob", b"cy"),
                 (0, 1, 2), LikeAll(), (LikeAll(),) * 3, ("ann", "bob", LikeAll()), BOOK[1]]
        wrong += listed(ORDER) + odd_things() + [other for thing in odd_things() for other in bent(ORDER, thing)]
        for thing in wrong:
            with self.assertRaises(NoOrder):
                settled(BOOK, KNOWN, thing)
        for thing in [("a",), [], None, "", {}, ((),)]:
            with self.assertRaises(NoOrder):
                settled((3, ()), KNOWN, thing)

    def test_no_half_ahead_of_no_order(self):
        for known in (["nnn"], ("yyy", "nnn"), None, ("nn",)):
            for order in ((), None, ["ann", "bob", "cy"], ("ann", "bob", "zed"), ORDER):
                with self.assertRaises(NoHalf):
                    settled(BOOK, known, order)


class BestOrder(unittest.TestCase):
    def by_trial(self, book, known):
        names = [name for name, row in book[1]]
        found = {order: len(settled_by_trial(book, known, order)[0]) for order in itertools.permutations(names)}
        most = max(found.values())
        return (most, min(order for order in found if found[order] == most))

    def test_no_rows(self):
        self.assertEqual(best_order((3, ()), ()), (0, ()))
        self.assertEqual(best_order((3, ()), ("nnn",)), (0, ()))

    def test_the_least_of_several(self):
        self.assertEqual(best_order(BOOK, ()), (0, ("ann", "bob", "cy")))
        book = (2, (("z", "nn"), ("a", "yb"), ("m", "bb")))
        self.assertEqual(best_order(book, ()), (0, ("a", "m", "z")))
        self.assertEqual(best_order(book, ("nn",)), (3, ("a", "m", "z")))

    def test_an_order_that_is_not_the_least(self):
        for rows, known, told in [
                ("bbb yny bbn byb", ("yyy",), (4, ("b", "c", "d", "a"))),
                ("bbbb ybyy nbbb", ("nyyy", "ynnn", "yyny"), (3, ("b", "c", "a"))),
                ("bbb byb ybb bny nny", ("ynn", "yyy"), (5, ("b", "a", "c", "d", "e")))]:
            rows = rows.split()
            book = (len(rows[0]), tuple(zip("abcde", rows)))
            self.assertEqual(best_order(book, known), told)
            self.assertEqual(self.by_trial(book, known), told)
            self.assertEqual(best_order((book[0], book[1][::-1]), known), told)
            self.assertLess(len(settled(book, known, tuple(sorted(told[1])))[0]), told[0])

    def test_books_by_trial(self):
        chance = chances(73)
        for book in some_books(74, 400, 4, 4):
            known = some_known(chance, book[0])
            told = best_order(book, known)
            self.assertEqual([type(told), type(told[0]), type(told[1])], [tuple, int, tuple])
            self.assertEqual(told, self.by_trial(book, known))

    def test_five_rows(self):
        chance = chances(75)
        for _ in range(8):
            rows = tuple((name, "".join(chance.choice("nbby") for place in range(4))) for name in ("e", "a", "cy", "bo", "d"))
            known = some_known(chance, 4)
            self.assertEqual(best_order((4, rows), known), self.by_trial((4, rows), known))

    def test_no_room(self):
        for many in (6, 7, 10):
            book = (2, tuple((name, "nb") for name in "abcdefghij"[:many]))
            for known in ((), ("nn",)):
                with self.assertRaises(NoRoom):
                    best_order(book, known)
            for known in (["nn"], ("nn", "nn"), ("nnn",), None):
                with self.assertRaises(NoHalf):
                    best_order(book, known)
        self.assertEqual(best_order((2, tuple((name, "nb") for name in "edcba")), ("nn",)), (5, tuple("abcde")))


if __name__ == "__main__":
    unittest.main()
