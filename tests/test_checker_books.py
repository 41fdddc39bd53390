"""The checker's claims of a book: fit, barred, many and fewest."""

import itertools
import unittest

from hidhalves.fewest import fewest
from hidhalves.fits import fit_told
from hidhalves.papers import paper_of_many
from tests.takings import CheckerCase
from tests.things import bent, chances, listed, some_book, some_books
from tests.trials import (choices_by_trial, counts_by_trial, fits_by_trial, halves_by_trial, is_odd_sum, links_by_trial, many_choices,
                          rules_by_trial, wrong_with_four)

NAMES = "abcdefghij"
EIGHT_B = (8, tuple((name, "bbbbbbbb") for name in NAMES))
# One row, and so four fits; of the links each two can turn together.
THREE_B = (3, (("a", "bbb"),))
THREE_RULE = ("row", "a", 0, 1, 2)
THREE_FIT = (("nnn", "yyy"),)
THREE_TURNS = (((0, 1), (0, 2)), ((0, 1), (1, 2)))
THREE_PAPER = (THREE_FIT, THREE_TURNS, ((THREE_RULE,),))
# The fourth place is no b, so that it has no links.
FOUR_B = (5, (("a", "bbbbn"),))
FOUR_RULES = tuple(("row", "a", *three) for three in itertools.combinations(range(4), 3))
ODD = (3, (("p", "bbb"), ("q", "nyn"), ("r", "ynn"), ("s", "nny")))
ODD_BAR = ("odd", (("row", "p", 0, 1, 2), ("seen", 0, 1, 1), ("seen", 0, 2, 1), ("seen", 1, 2, 1)))
FOUR = (3, (("p", "nbn"), ("q", "ybn"), ("r", "nny")))
FOUR_BAR = ("four", 0, 1, ("p", "p", "q", "q"))
NO_BOOKS = (None, (), (3,), [3, ()], (3, []), (0, ()), (9, ()), (True, ()), (3, (("a", "bbb"), ("a", "bbb"))), (3, (("a", "bb"),)),
            (3, (("A", "bbb"),)), (3, (["a", "bbb"],)), (3, (("a", "bbo"),)), (3, (("a", "bbb"),) * 11), ("3", (("a", "bbb"),)))


def parts_of(things):
    """All choices of some of these things, in their order."""
    return [some for many in range(len(things) + 1) for some in itertools.combinations(things, many)]


def small_books(seed, many, most):
    return [book for book in some_books(seed, many, 5, 5) if many_choices(book) <= most]


class Fit(CheckerCase):
    def test_good_ones(self):
        self.take(("fit", THREE_B), THREE_FIT)
        self.take(("fit", THREE_B), (("nny", "yyn"),))
        self.take(("fit", (3, (("a", "nyn"),))), (("nyn", "nyn"),))
        for places in range(1, 9):
            self.take(("fit", (places, ())), ())

    def test_what_is_no_book(self):
        for book in NO_BOOKS:
            self.leave(("fit", book), THREE_FIT)
            self.leave(("fit", book), ())

    def test_partings_of_other_rows(self):
        for parting in (("nnn", "yyn"), ("nnn", "nnn"), ("nnnn", "yyyy"), ("nn", "yy"), ("nnn", "bbb"), ("bbb", "bbb"), (), ("nnn",),
                        ("nnn", "yyy", "yyy")):
            self.leave(("fit", THREE_B), (parting,))
        self.leave(("fit", (2, (("a", "bb"), ("b", "nb")))), (("nn", "ny"), ("nn", "yy")))
        self.take(("fit", (2, (("a", "bb"), ("b", "nb")))), (("nn", "yy"), ("nn", "ny")))

    def test_exchanged(self):
        self.leave(("fit", THREE_B), (("yyy", "nnn"),))
        self.leave(("fit", THREE_B), (("yyn", "nny"),))

    def test_left_out_or_twice(self):
        book, fit = (2, (("a", "bb"), ("b", "bb"))), (("nn", "yy"),) * 2
        self.take(("fit", book), fit)
        for wrong in ((), fit[:1], fit + fit[:1], fit + ((),)):
            self.leave(("fit", book), wrong)
        self.leave(("fit", (2, ())), (("nn", "yy"),))

    def test_half_rows_that_cross(self):
        self.leave(("fit", (2, (("a", "bb"), ("b", "bb")))), (("nn", "yy"), ("ny", "yn")))
        self.leave(("fit", (2, (("a", "nb"), ("b", "yb")))), (("nn", "ny"), ("yn", "yy")))
        self.leave(("fit", (8, (("a", "bnnnnnnb"), ("b", "bnnnnnnb")))), (("nnnnnnnn", "ynnnnnny"), ("nnnnnnny", "ynnnnnnn")))

    def test_other_parts(self):
        for paper in (None, [], list(THREE_FIT), (["nnn", "yyy"],), ("fit", THREE_FIT), "nnn", (None,), ((None, None),)):
            self.leave(("fit", THREE_B), paper)

    def test_all_choices_of_small_books(self):
        taken = 0
        for book in small_books(131, 150, 64):
            fits = fits_by_trial(book)
            for choice in choices_by_trial(book):
                self.assertIs(self.ask(("fit", book), choice), choice in fits)
                self.leave(("barred", book), choice)
            taken += len(fits)
        self.assertGreater(taken, 100)

    def test_very_many_choices(self):
        fit = (("nynynyny", "ynynynyn"),) * 10
        self.take(("fit", EIGHT_B), fit)
        self.leave(("fit", EIGHT_B), fit[1:] + (("nynynynn", "ynynynyy"),))


class Four(CheckerCase):
    def test_good_one(self):
        self.take(("barred", FOUR), FOUR_BAR)
        self.take(("barred", FOUR), ("four", 0, 1, ("r", "p", "q", "q")))

    def test_what_is_no_book(self):
        for book in NO_BOOKS:
            self.leave(("barred", book), FOUR_BAR)
            self.leave(("barred", book), ODD_BAR)
            self.leave(("barred", book), ("odd", ()))

    def test_names(self):
        for names in (("p", "p", "q", "r"), ("q", "p", "q", "q"), ("x", "p", "q", "q"), ("p", "p", "q"), ("p", "p", "q", "q", "q"), (), None,
                      ["p", "p", "q", "q"], "ppqq", (None, "p", "q", "q"), ("nbn", "nbn", "ybn", "ybn"), (0, 0, 1, 1)):
            self.leave(("barred", FOUR), ("four", 0, 1, names))

    def test_places(self):
        names = FOUR_BAR[3]
        for first, second in ((1, 0), (0, 0), (0, 2), (1, 2), (0, 3), (-3, 1), (-3, -2), (False, True), (0, True), (False, 1), ("0", "1"),
                              (None, 1), (0, 10 ** 30)):
            self.leave(("barred", FOUR), ("four", first, second, names))

    def test_two_b_show_nothing_surely(self):
        book = (2, (("a", "nb"), ("b", "yn"), ("c", "bb")))
        self.leave(("barred", book), ("four", 0, 1, ("a", "a", "b", "c")))
        self.leave(("barred", (2, (("a", "bb"),))), ("four", 0, 1, ("a", "a", "a", "a")))

    def test_other_parts(self):
        for paper in (None, (), FOUR_BAR[:3], FOUR_BAR + (0,), list(FOUR_BAR), FOUR_BAR[1:], ("five",) + FOUR_BAR[1:], ("odd",) + FOUR_BAR[1:],
                      (None,) + FOUR_BAR[1:], ("barred", FOUR_BAR), ("four", FOUR_BAR[1:])):
            self.leave(("barred", FOUR), paper)

    def test_all_names_and_places_of_small_books(self):
        taken = 0
        chance = chances(132)
        for book in [some_book(chance, 3, 4, "nbby") for _ in range(120)]:
            names = [name for name, row in book[1]]
            for first, second in itertools.product(range(-1, book[0] + 1), repeat=2):
                for four in itertools.product(names, repeat=4):
                    bar = ("four", first, second, four)
                    good = 0 <= first < second < book[0] and wrong_with_four(book, bar) is None
                    self.assertIs(self.ask(("barred", book), bar), good)
                    taken += good
        self.assertGreater(taken, 20)


class Odd(CheckerCase):
    def test_good_one(self):
        self.take(("barred", ODD), ODD_BAR)
        self.take(("barred", (2, (("a", "bb"), ("b", "nb"), ("c", "yb")))), ("odd", (("seen", 0, 1, 0), ("seen", 0, 1, 1))))

    def test_not_bound_to_be_least(self):
        book = (4, tuple((name, row + "b" if row == "bbb" else row + "n") for name, row in ODD[1]))
        rules = rules_by_trial(book)
        even = tuple(("row", "p", *three) for three in itertools.combinations(range(4), 3))
        more = tuple(sorted(set(even) ^ set(ODD_BAR[1])))
        self.assertTrue(is_odd_sum(rules, more))
        self.take(("barred", book), ("odd", more))
        self.take(("barred", book), ODD_BAR)
        twice = (6, tuple((name, row * 2) for name, row in ODD[1]))
        shifted = (("row", "p", 3, 4, 5), ("seen", 3, 4, 1), ("seen", 3, 5, 1), ("seen", 4, 5, 1))
        self.take(("barred", twice), ("odd", shifted))
        self.leave(("barred", twice), ("odd", tuple(sorted(ODD_BAR[1] + shifted))))
        both = tuple(sorted(ODD_BAR[1] + tuple(("row", "p", *three) for three in itertools.combinations(range(2, 6), 3))))
        self.take(("barred", twice), ("odd", both))

    def test_rules_left_out_or_put_in(self):
        for at in range(4):
            self.leave(("barred", ODD), ("odd", ODD_BAR[1][:at] + ODD_BAR[1][at + 1:]))
        self.leave(("barred", ODD), ("odd", ()))

    def test_rules_twice(self):
        for rule in ODD_BAR[1]:
            self.leave(("barred", ODD), ("odd", tuple(sorted(ODD_BAR[1] + (rule,)))))
            self.leave(("barred", ODD), ("odd", tuple(sorted(ODD_BAR[1] + (rule, rule)))))

    def test_not_rising(self):
        for order in itertools.permutations(ODD_BAR[1]):
            (self.take if order == ODD_BAR[1] else self.leave)(("barred", ODD), ("odd", order))

    def test_no_rules_of_the_book(self):
        rest = ODD_BAR[1][1:]
        for rule in (("row", "q", 0, 1, 2), ("row", "x", 0, 1, 2), ("row", "p", 0, 1, 3), ("row", "p", 0, 2, 1), ("row", "p", False, True, 2),
                     ["row", "p", 0, 1, 2], ("row", "p", 0, 1), ("row", "p", 0, 1, 2, 0), "row", None, (), ("row", ["p"], 0, 1, 2)):
            self.leave(("barred", ODD), ("odd", (rule,) + rest))
        # Of this book the sum would be odd too, but nothing is seen at the last two places.
        book = (3, ODD[1][:3])
        self.leave(("barred", book), ODD_BAR)
        self.leave(("barred", THREE_B), ("odd", (("seen", 0, 1, 0), ("seen", 0, 1, 1))))

    def test_an_even_sum(self):
        book = (3, (("p", "bbb"), ("q", "nnn"), ("r", "yyn"), ("s", "nyy"), ("t", "yny")))
        rules = rules_by_trial(book)
        for chosen in parts_of(list(rules)):
            self.assertIs(self.ask(("barred", book), ("odd", chosen)), is_odd_sum(rules, chosen))

    def test_other_parts(self):
        for paper in (("odd",), ODD_BAR + (0,), list(ODD_BAR), ("four", ODD_BAR[1]), ("odd", list(ODD_BAR[1])), ("odd", None), ODD_BAR[1],
                      (None, ODD_BAR[1]), ("barred", ODD_BAR)):
            self.leave(("barred", ODD), paper)

    def test_all_rules_of_small_books(self):
        taken = least = 0
        for book in some_books(133, 1200, 4, 8):
            rules = rules_by_trial(book)
            if not 2 <= len(rules) <= 9:
                continue
            for chosen in parts_of(list(rules)):
                good = is_odd_sum(rules, chosen)
                self.assertIs(self.ask(("barred", book), ("odd", chosen)), good)
                taken += good
                least += good and len(chosen) > 3
        self.assertGreater(taken, 100)
        self.assertGreater(least, 20)

    def test_just_where_there_is_no_fit(self):
        words = []
        for book in some_books(134, 200, 8, 10):
            word, paper = fit_told(book)
            words.append(word)
            self.take((word, book), paper)
            self.leave(({"fit": "barred", "barred": "fit"}[word], book), paper)
        self.assertGreater(min(words.count("fit"), words.count("barred")), 40)


class Many(CheckerCase):
    def test_good_ones(self):
        self.take(("many", THREE_B, 4), THREE_PAPER)
        self.take(("many", THREE_B, 4), ((("nyn", "yny"),), THREE_TURNS[::-1], ((THREE_RULE,),)))
        self.take(("many", THREE_B, 4), (THREE_FIT, (((0, 2), (1, 2)), ((0, 1), (0, 2))), ((THREE_RULE,),)))
        self.take(("many", (3, ()), 1), ((), (), ()))
        self.take(("many", (3, (("a", "nyb"),)), 1), ((("nyn", "nyy"),), (), ()))
        self.take(("many", (2, (("a", "bb"),)), 2), ((("ny", "yn"),), (((0, 1),),), ()))
        self.take(("many", (2, (("a", "bb"), ("b", "ny"), ("c", "yn"))), 1),
                  ((("ny", "yn"), ("ny", "ny"), ("yn", "yn")), (), ((("seen", 0, 1, 1),),)))

    def test_what_is_no_book(self):
        for book in NO_BOOKS:
            self.leave(("many", book, 4), THREE_PAPER)
            self.leave(("many", book, 1), ((), (), ()))
            self.leave(("many", book, 0), ODD_BAR)

    def test_the_fit(self):
        for fit in ((), (("yyy", "nnn"),), (("nnn", "nnn"),), THREE_FIT * 2, None, list(THREE_FIT)):
            self.leave(("many", THREE_B, 4), (fit,) + THREE_PAPER[1:])
        book = (2, (("a", "bb"), ("b", "bb")))
        self.take(("many", book, 2), ((("nn", "yy"),) * 2, (((0, 1),),), ()))
        self.leave(("many", book, 2), ((("nn", "yy"), ("ny", "yn")), (((0, 1),),), ()))

    def test_a_turn_that_a_rule_has_an_odd_number_of(self):
        for wrong in (((0, 1),), ((0, 1), (0, 2), (1, 2))):
            self.leave(("many", THREE_B, 4), (THREE_FIT, (THREE_TURNS[0], wrong), ((THREE_RULE,),)))
        book = (2, (("a", "bb"), ("b", "ny"), ("c", "yn")))
        self.leave(("many", book, 2), ((("ny", "yn"), ("ny", "ny"), ("yn", "yn")), (((0, 1),),), ()))

    def test_a_turn_without_a_link_that_no_later_one_has(self):
        self.leave(("many", THREE_B, 4), (THREE_FIT, THREE_TURNS[:1] * 2, ((THREE_RULE,),)))
        self.leave(("many", THREE_B, 4), (THREE_FIT, ((), THREE_TURNS[0]), ((THREE_RULE,),)))
        self.leave(("many", THREE_B, 4), (THREE_FIT, (THREE_TURNS[0], ()), ((THREE_RULE,),)))
        self.leave(("many", THREE_B, 8), (THREE_FIT, THREE_TURNS + (((0, 2), (1, 2)),), ()))
        # Two links for each of two rows: the first turn's links all stand in the second.
        book, fit = (4, (("a", "bbnn"), ("b", "nnbb"))), (("nnnn", "yynn"), ("nnnn", "nnyy"))
        self.take(("many", book, 4), (fit, (((0, 1), (2, 3)), ((0, 1),)), ()))
        self.leave(("many", book, 4), (fit, (((0, 1),), ((0, 1), (2, 3))), ()))

    def test_links_that_are_none(self):
        book = (4, (("a", "bbbn"),))
        fit, sums = (("nnnn", "yyyn"),), ((("row", "a", 0, 1, 2),),)
        self.take(("many", book, 4), (fit, THREE_TURNS, sums))
        for link in ((0, 3), (2, 3), (2, 4), (2, 1), (2, 2), (1, 3, 4), (3,), (True, 2), ("1", "2"), None, [1, 2]):
            self.leave(("many", book, 4), (fit, (THREE_TURNS[0], ((0, 1), (1, 2), link)), sums))
        for turn in (((0, True), (1, 2)), ((False, 1), (1, 2)), ([0, 1], (1, 2)), [(0, 1), (1, 2)], "0112", None):
            self.leave(("many", book, 4), (fit, (THREE_TURNS[0], turn), sums))

    def test_a_turn_that_does_not_rise(self):
        self.leave(("many", THREE_B, 4), (THREE_FIT, (THREE_TURNS[0], ((1, 2), (0, 1))), ((THREE_RULE,),)))
        self.leave(("many", THREE_B, 4), (THREE_FIT, (THREE_TURNS[0], ((0, 1), (0, 1), (1, 2))), ((THREE_RULE,),)))
        self.leave(("many", THREE_B, 4), (THREE_FIT, (THREE_TURNS[0], ((0, 1), (1, 2), (1, 2), (1, 2))), ((THREE_RULE,),)))

    def test_a_sum_without_its_link(self):
        self.leave(("many", THREE_B, 4), (THREE_FIT, THREE_TURNS, ((),)))
        fit = (("nnnnn", "yyyyn"),)
        turns = (((0, 1), (1, 2), (1, 3)), ((0, 2), (1, 2), (2, 3)), ((0, 3), (1, 3), (2, 3)))
        first, second, third, fourth = FOUR_RULES
        self.take(("many", FOUR_B, 8), (fit, turns, ((first,), (second,), (third,))))
        self.take(("many", FOUR_B, 8), (fit, turns, ((fourth,), (first, second), (first,))))
        self.take(("many", FOUR_B, 8), (fit, turns, ((first, second, third), (second,), (third,))))
        self.leave(("many", FOUR_B, 8), (fit, turns, ((first,), (first,), (third,))))
        self.leave(("many", FOUR_B, 8), (fit, turns, (FOUR_RULES, (second,), (third,))))
        self.leave(("many", FOUR_B, 8), (fit, turns, ((first,), (second,), FOUR_RULES)))
        self.leave(("many", FOUR_B, 8), (fit, turns, ((first, second), (first, third), (second, third))))
        # The first sum's links are (0, 1), (0, 2), (1, 2), of which the second has one and the third the others.
        self.leave(("many", FOUR_B, 8), (fit, turns, ((first,), (second,), (third, fourth))))

    def test_rules_twice_or_not_rising(self):
        self.leave(("many", THREE_B, 4), (THREE_FIT, THREE_TURNS, ((THREE_RULE,) * 3,)))
        fit = (("nnnnn", "yyyyn"),)
        turns = (((0, 1), (1, 2), (1, 3)), ((0, 2), (1, 2), (2, 3)), ((0, 3), (1, 3), (2, 3)))
        first, second, third, fourth = FOUR_RULES
        self.leave(("many", FOUR_B, 8), (fit, turns, ((third, second, first), (second,), (third,))))
        self.leave(("many", FOUR_B, 8), (fit, turns, ((first, second, second, second, third), (second,), (third,))))

    def test_rules_that_are_none(self):
        for rule in (("row", "b", 0, 1, 2), ("row", "a", 0, 1), ("row", "a", 0, 2, 1), ("seen", 0, 1, 0), ("seen", 0, 1, 1), None, (), "row",
                     ["row", "a", 0, 1, 2], ("row", "a", False, True, 2), ("row", "a", 0, 1, 3)):
            self.leave(("many", THREE_B, 4), (THREE_FIT, THREE_TURNS, ((rule,),)))
        for sums in (((THREE_RULE,), ()), [(THREE_RULE,)], ([THREE_RULE],), (THREE_RULE,), THREE_RULE, None, ()):
            self.leave(("many", THREE_B, 4), (THREE_FIT, THREE_TURNS, sums))

    def test_too_few_of_both(self):
        self.leave(("many", THREE_B, 4), (THREE_FIT, THREE_TURNS, ()))
        for at in (0, 1):
            self.leave(("many", THREE_B, 2), (THREE_FIT, THREE_TURNS[at:at + 1], ((THREE_RULE,),)))
        self.leave(("many", THREE_B, 1), (THREE_FIT, (), ((THREE_RULE,),)))
        self.leave(("many", THREE_B, 1), (THREE_FIT, (), ()))

    def test_a_wrong_number(self):
        for many in (0, 1, 2, 3, 5, 8, -4, 10 ** 30, None, "4", (4,), True):
            self.leave(("many", THREE_B, many), THREE_PAPER)
        self.leave(("many", (3, ()), True), ((), (), ()))
        self.leave(("many", (3, ()), False), ((), (), ()))

    def test_no_fits(self):
        for book, bar in ((ODD, ODD_BAR), (FOUR, FOUR_BAR)):
            self.take(("many", book, 0), bar)
            for many in (1, 2, -1, None, False):
                self.leave(("many", book, many), bar)
            for wrong in bent(bar, None) + listed(bar) + [None, (), (bar,), (None, (), ()), ((), (), ())]:
                self.leave(("many", book, 0), wrong)
        self.leave(("many", THREE_B, 0), ODD_BAR)
        self.leave(("many", THREE_B, 0), ("odd", ()))

    def test_other_parts(self):
        for paper in (None, (), THREE_PAPER[:2], THREE_PAPER + ((),), list(THREE_PAPER), (THREE_FIT, THREE_PAPER[2], THREE_TURNS),
                      (THREE_FIT, list(THREE_TURNS), THREE_PAPER[2]), (THREE_FIT, None, THREE_PAPER[2]), (THREE_FIT, (None, None), THREE_PAPER[2])):
            self.leave(("many", THREE_B, 4), paper)

    def test_all_papers_of_one_small_book(self):
        all_turns = parts_of(links_by_trial(THREE_B))
        taken = 0
        for many_turns, many_sums in itertools.product(range(4), range(3)):
            if many_turns + many_sums > 3:
                continue
            for turns in itertools.product(all_turns, repeat=many_turns):
                for sums in itertools.product([(), (THREE_RULE,)], repeat=many_sums):
                    paper = (THREE_FIT, turns, sums)
                    good = counts_by_trial(THREE_B, 2 ** many_turns, paper)
                    self.assertIs(self.ask(("many", THREE_B, 2 ** many_turns), paper), good)
                    taken += good
        # Each two of the three turns that keep the rule, in either order.
        self.assertEqual(taken, 6)

    def test_bent_papers_of_small_books(self):
        chance = chances(135)
        taken = left = 0
        for book in small_books(136, 150, 64):
            links, rules = links_by_trial(book), list(rules_by_trial(book))
            many, paper = paper_of_many(book)[0][2], paper_of_many(book)[1]
            self.assertEqual(many, len(fits_by_trial(book)))
            if many == 0 or not links:
                continue
            fit, turns, sums = paper
            for _ in range(20):
                some = tuple(tuple(chance.sample(links, chance.randint(0, len(links)))) for _ in turns)
                other_turns = tuple(tuple(sorted(set(turn) ^ set(more))) if chance.random() < 0.2 else turn for turn, more in zip(turns, some))
                other_sums = tuple(tuple(sorted(set(used) ^ set(chance.sample(rules, 1)))) if chance.random() < 0.3 else used for used in sums)
                other = (fit, tuple(chance.sample(other_turns, len(turns))), tuple(chance.sample(other_sums, len(sums))))
                good = counts_by_trial(book, many, other)
                self.assertIs(self.ask(("many", book, many), other), good, (book, other))
                taken, left = taken + good, left + (not good)
        self.assertGreater(min(taken, left), 200)

    def test_very_many_choices(self):
        claim, paper = paper_of_many(EIGHT_B)
        self.assertEqual(claim, ("many", EIGHT_B, 128))
        self.take(claim, paper)
        self.leave(("many", EIGHT_B, 64), paper)


class Fewest(CheckerCase):
    BOOK = (3, (("a", "bbn"), ("b", "nbb")))
    CHOICE = (("nnn", "yyn"), ("nnn", "nyy"))

    def test_good_ones(self):
        self.take(("fewest", self.BOOK, 3), self.CHOICE)
        self.take(("fewest", self.BOOK, 3), (("nyn", "ynn"), ("nny", "nyn")))
        self.take(("fewest", (4, ()), 0), ())
        self.take(("fewest", (2, (("a", "ny"), ("b", "ny"))), 1), (("ny", "ny"), ("ny", "ny")))

    def test_what_is_no_book(self):
        for book in NO_BOOKS:
            self.leave(("fewest", book, 2), THREE_FIT)
            self.leave(("fewest", book, 0), ())

    def test_a_choice_that_has_more(self):
        more = (("nnn", "yyn"), ("nny", "nyn"))
        for many in (3, 4):
            self.leave(("fewest", self.BOOK, many), more)

    def test_other_numbers(self):
        for many in (2, 4, 0, -3, None, "3", (3,), 10 ** 30, True):
            self.leave(("fewest", self.BOOK, many), self.CHOICE)
        self.leave(("fewest", (2, (("a", "ny"),)), True), (("ny", "ny"),))
        self.leave(("fewest", (2, ()), False), ())

    def test_what_is_no_choice(self):
        for choice in ((), self.CHOICE[:1], self.CHOICE + self.CHOICE[:1], self.CHOICE[::-1], (("yyn", "nnn"), ("nnn", "nyy")), None,
                       list(self.CHOICE), (("nnn", "yyn"), ("nnn", "yyn")), (("nnn", "yyn"), None), ("nnn", "nyy", "yyn")):
            self.leave(("fewest", self.BOOK, 3), choice)

    def test_half_rows_that_cross_are_no_matter(self):
        book = (2, (("a", "nb"), ("b", "yb"), ("c", "bb")))
        self.take(("fewest", book, 4), (("nn", "ny"), ("yn", "yy"), ("nn", "yy")))

    def test_alike_rows_parted_unlike(self):
        book = (2, (("a", "bb"), ("b", "nn"), ("c", "bb"), ("d", "yy"), ("e", "ny"), ("f", "yn")))
        choice = (("nn", "yy"), ("nn", "nn"), ("ny", "yn"), ("yy", "yy"), ("ny", "ny"), ("yn", "yn"))
        self.take(("fewest", book, 4), choice)
        self.leave(("fewest", (2, (book[1][0], book[1][2])), 4), (choice[0], choice[2]))

    def test_the_room(self):
        just = (8, (("a", "bbbbbbbb"), ("b", "nbbbnnnn"), ("c", "bbbbbbbb"), ("d", "nbbbnnnn")))
        many, choice = fewest(just)
        self.take(("fewest", just, many), choice)
        beyond = (8, (("a", "bbbbbbbb"), ("b", "nbbbbnnn")))
        for row in partings_with_fewest(beyond):
            self.leave(("fewest", beyond, len(halves_by_trial(row))), row)
        self.take(("fewest", EIGHT_B, 2), (("nynynyny", "ynynynyn"),) * 10)
        self.leave(("fewest", EIGHT_B, 4), (("nynynyny", "ynynynyn"),) * 9 + (("nnnnnnnn", "yyyyyyyy"),))

    def test_all_choices_of_small_books(self):
        for book in small_books(137, 120, 64):
            choices = choices_by_trial(book)
            least = min(len(halves_by_trial(choice)) for choice in choices)
            for choice in choices:
                many = len(halves_by_trial(choice))
                self.assertIs(self.ask(("fewest", book, many), choice), many == least)
                self.leave(("fewest", book, many + 1), choice)
                self.leave(("fewest", book, many - 1), choice)


def partings_with_fewest(book):
    """The choices with the fewest half-rows, some of them."""
    choices = choices_by_trial(book)
    least = min(len(halves_by_trial(choice)) for choice in choices)
    return [choice for choice in choices if len(halves_by_trial(choice)) == least][:5]


if __name__ == "__main__":
    unittest.main()
