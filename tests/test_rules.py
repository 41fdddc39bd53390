import copy
import itertools
import unittest

from hidhalves.errors import NoRule
from hidhalves.rules import links_of, rule_says, rules_of
from tests.things import LikeAll, all_texts, bent, listed, odd_things, some_books
from tests.trials import links_by_trial, rules_by_trial

FEW = (3, (("ann", "bbb"), ("bob", "nny"), ("cy", "yyn"), ("dee", "nyb")))


class Links(unittest.TestCase):
    def test_books_without_links(self):
        for book in [(1, ()), (8, ()), (1, (("a", "b"),)), (1, (("a", "b"), ("c", "b"))), (3, (("a", "nby"), ("c", "bnn"))),
                     (2, (("a", "bn"), ("c", "nb")))]:
            self.assertEqual(links_of(book), [])
            self.assertEqual(rules_of(book), [])

    def test_rising_and_each_once(self):
        self.assertEqual(links_of((3, (("z", "nbb"), ("a", "bnb"), ("c", "nbb")))), [(0, 2), (1, 2)])
        self.assertEqual(links_of((3, (("a", "bbb"), ("c", "bbb")))), [(0, 1), (0, 2), (1, 2)])
        self.assertEqual(links_of((4, (("a", "bnnb"), ("c", "nbbn"), ("d", "bbnn")))), [(0, 1), (0, 3), (1, 2)])

    def test_eight_b(self):
        self.assertEqual(links_of((8, (("a", "bbbbbbbb"),))), list(itertools.combinations(range(8), 2)))

    def test_books_by_trial(self):
        for book in some_books(31, 200, 8, 6):
            told = links_of(book)
            self.assertIs(type(told), list)
            self.assertEqual(told, links_by_trial(book))
            for link in told:
                self.assertEqual([type(link), type(link[0]), type(link[1])], [tuple, int, int])

    def test_a_told_list_changed(self):
        for told in (links_of(FEW), rules_of(FEW)):
            told[0] = None
            told.reverse()
            told.clear()
        self.assertEqual(links_of(FEW), [(0, 1), (0, 2), (1, 2)])
        self.assertEqual(rules_of(FEW), list(rules_by_trial(FEW)))


class Rules(unittest.TestCase):
    def test_even_ones_are_seen(self):
        self.assertEqual(rules_of((2, (("a", "bb"), ("c", "nn"), ("d", "yy")))), [("seen", 0, 1, 0)])
        self.assertEqual(rules_of((2, (("d", "yy"), ("c", "nn"), ("a", "bb")))), [("seen", 0, 1, 0)])
        self.assertEqual(rules_of((2, (("a", "bb"), ("c", "nb"), ("d", "by")))), [("seen", 0, 1, 0)])

    def test_odd_ones_are_seen(self):
        self.assertEqual(rules_of((2, (("a", "bb"), ("c", "ny"), ("d", "yn")))), [("seen", 0, 1, 1)])
        self.assertEqual(rules_of((2, (("a", "bb"), ("c", "nb"), ("d", "bn")))), [("seen", 0, 1, 1)])

    def test_both_are_seen(self):
        both = [("seen", 0, 1, 0), ("seen", 0, 1, 1)]
        self.assertEqual(rules_of((2, (("a", "bb"), ("c", "nb"), ("d", "yb")))), both)
        self.assertEqual(rules_of((2, (("a", "nn"), ("c", "yy"), ("d", "bb"), ("e", "ny"), ("f", "yn")))), both)

    def test_too_little_is_seen(self):
        for rows in (("bb",), ("bb", "bb"), ("bb", "nn"), ("bb", "nb"), ("bb", "nn", "ny"), ("bb", "yn", "yy", "yb")):
            self.assertEqual(rules_of((2, tuple(zip("acde", rows)))), [], rows)

    def test_what_is_seen_at_no_link_is_no_rule(self):
        self.assertEqual(rules_of((2, (("a", "nb"), ("c", "yb")))), [])
        self.assertEqual(rules_of((3, (("a", "nyb"), ("c", "ynb"), ("d", "bnb")))), [("seen", 0, 2, 0), ("seen", 0, 2, 1)])

    def test_three_b_of_a_row(self):
        self.assertEqual(rules_of((3, (("a", "bbb"),))), [("row", "a", 0, 1, 2)])
        self.assertEqual(rules_of((5, (("a", "bybnb"),))), [("row", "a", 0, 2, 4)])
        self.assertEqual(rules_of((4, (("z", "bbbb"), ("c", "nnbb")))), [
            ("row", "z", 0, 1, 2), ("row", "z", 0, 1, 3), ("row", "z", 0, 2, 3), ("row", "z", 1, 2, 3)])
        self.assertEqual(rules_of((3, (("z", "bbb"), ("c", "bbb")))), [("row", "c", 0, 1, 2), ("row", "z", 0, 1, 2)])
        self.assertEqual(len(rules_of((8, (("a", "bbbbbbbb"),)))), 56)
        self.assertEqual(len(rules_of((8, tuple((name, "bbbbbbbb") for name in "abcdefghij")))), 560)

    def test_both_sorts_rising(self):
        self.assertEqual(rules_of(FEW), [("row", "ann", 0, 1, 2), ("seen", 0, 1, 0), ("seen", 0, 2, 1), ("seen", 1, 2, 1)])

    def test_all_books_of_two_rows_of_two_places(self):
        for one, other, third in itertools.product(all_texts("bny", 2), repeat=3):
            book = (2, (("a", one), ("c", other), ("d", third)))
            self.assertEqual(rules_of(book), list(rules_by_trial(book)), book)

    def test_books_by_trial(self):
        for book in some_books(32, 150, 7, 6):
            before = copy.deepcopy(book)
            told = rules_of(book)
            self.assertIs(type(told), list)
            self.assertEqual(repr(told), repr(list(rules_by_trial(book))))
            self.assertEqual(book, before)


class Says(unittest.TestCase):
    def test_each_sort(self):
        self.assertEqual(rule_says(FEW, ("row", "ann", 0, 1, 2)), (((0, 1), (0, 2), (1, 2)), 0))
        self.assertEqual(rule_says(FEW, ("seen", 0, 1, 0)), (((0, 1),), 0))
        self.assertEqual(rule_says(FEW, ("seen", 1, 2, 1)), (((1, 2),), 1))

    def test_each_rule_by_trial(self):
        for book in some_books(33, 60, 6, 5):
            for rule, says in rules_by_trial(book).items():
                self.assertEqual(repr(rule_says(book, rule)), repr(says))

    def refuse(self, book, rule):
        with self.assertRaises(NoRule):
            rule_says(book, rule)

    def test_rules_bent_in_one_part(self):
        for rule in rules_of(FEW):
            for worth in ("row", "seen", "rows", "", "ann", "bob", "cy", "dee", "an", 0, 1, 2, 3, -1, 10 ** 30, None, True,
                          False, "0", "1", b"seen", b"ann", (), (0,), [0], LikeAll()):
                for other in bent(rule, worth):
                    if repr(other) not in map(repr, rules_of(FEW)):
                        self.refuse(FEW, other)

    def test_rules_that_are_none(self):
        for rule in [("seen", 0, 1, 1), ("seen", 1, 0, 0), ("seen", 0, 0, 0), ("seen", 0, 3, 0), ("seen", 0, 1, 2),
                     ("row", "ann", 0, 2, 1), ("row", "ann", 2, 1, 0), ("row", "ann", 0, 0, 1), ("row", "ann", 1, 2, 3),
                     ("row", "bob", 0, 1, 2), ("row", "zed", 0, 1, 2), ("row", 0, 1, 2), ("row", "ann"), ("seen",)]:
            self.refuse(FEW, rule)

    def test_rules_of_another_book(self):
        other = (3, (("bob", "bbb"), ("cy", "nbn"), ("dee", "nnb")))
        self.assertEqual(rules_of(other), [("row", "bob", 0, 1, 2), ("seen", 1, 2, 1)])
        self.refuse(other, ("row", "ann", 0, 1, 2))
        self.refuse(other, ("seen", 0, 2, 1))
        self.refuse((3, ()), ("row", "ann", 0, 1, 2))
        self.refuse((3, (("ann", "bbn"),)), ("row", "ann", 0, 1, 2))

    def test_lists_longer_and_shorter_ones(self):
        for rule in rules_of(FEW):
            for other in listed(rule) + [rule + (0,), rule + rule, rule[:-1], rule[1:], (rule,), rule[::-1], repr(rule),
                                         [rule], {rule: 0}, frozenset([rule])]:
                self.refuse(FEW, other)

    def test_truths_for_numbers(self):
        book = (3, (("a", "bbb"), ("c", "nnn"), ("d", "yyy")))
        for rule in rules_of(book):
            for at, part in enumerate(rule):
                if part in (0, 1):
                    self.refuse(book, rule[:at] + (bool(part),) + rule[at + 1:])

    def test_things_of_other_kinds(self):
        for book in (FEW, (3, ()), (1, (("a", "b"),))):
            for thing in odd_things() + ["row", "seen", 1, 2, LikeAll(), (LikeAll(),) * 4, (LikeAll(),) * 5]:
                self.refuse(book, thing)
                self.refuse(book, ("seen", 0, 1, thing))
                self.refuse(book, ("row", thing, 0, 1, 2))


if __name__ == "__main__":
    unittest.main()
