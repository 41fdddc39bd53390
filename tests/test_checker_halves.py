"""The checker's claims of half-rows: tree and crossing."""

import itertools
import unittest

from hidhalves.crossings import crossing_of
from hidhalves.trees import tree_of
from tests.takings import CheckerCase
from tests.things import all_texts, bent, chances, listed, some_text
from tests.trials import PAIRS

# Three leaves, tied to a knot that isn't told.
STAR = ("nny", "nyn", "ynn")
STAR_TREE = (("nnn", "nny", "nyn", "ynn"), (("nnn", "nny", (2,)), ("nnn", "nyn", (1,)), ("nnn", "ynn", (0,))))


def parts_of(things):
    """All choices of some of these things, in their order."""
    return [some for many in range(len(things) + 1) for some in itertools.combinations(things, many)]


def all_ties(knots):
    """All ties that there can be between these rising knots."""
    return [(one, other, tuple(place for place in range(len(one)) if one[place] != other[place]))
            for one, other in itertools.combinations(knots, 2)]


def some_halves(chance, most_places, most):
    """Half-rows, each made of one ahead by turning one place, so that many of them don't cross."""
    places = chance.randint(1, most_places)
    halves = [some_text(chance, "ny", places)]
    while len(halves) < chance.randint(1, most):
        half, place = chance.choice(halves), chance.randrange(places)
        halves.append(half[:place] + ("y" if half[place] == "n" else "n") + half[place + 1:])
    return tuple(halves)


class Tree(CheckerCase):
    def test_good_ones(self):
        self.take(("tree", STAR), STAR_TREE)
        self.take(("tree", STAR[::-1]), STAR_TREE)
        self.take(("tree", STAR + STAR), STAR_TREE)
        self.take(("tree", STAR + ("nnn",)), STAR_TREE)
        self.take(("tree", ("n",)), (("n",), ()))
        self.take(("tree", ("y", "y")), (("y",), ()))
        self.take(("tree", ("n", "y")), (("n", "y"), (("n", "y", (0,)),)))
        self.take(("tree", ("nnnnnnnn", "yyyyyyyn")), (("nnnnnnnn", "yyyyyyyn"), (("nnnnnnnn", "yyyyyyyn", (0, 1, 2, 3, 4, 5, 6)),)))

    def test_an_untold_knot_that_is_not_the_least(self):
        self.take(("tree", ("nyy", "yny", "yyn")),
                  (("nyy", "yny", "yyn", "yyy"), (("nyy", "yyy", (0,)), ("yny", "yyy", (1,)), ("yyn", "yyy", (2,)))))
        self.take(("tree", ("nnn", "nyy", "yyn")),
                  (("nnn", "nyn", "nyy", "yyn"), (("nnn", "nyn", (1,)), ("nyn", "nyy", (2,)), ("nyn", "yyn", (0,)))))

    def test_what_are_no_half_rows(self):
        for halves in ((), ("n", "nn"), STAR + ("nn",), STAR + ("nnb",), STAR + (None,), list(STAR), "nny", None, ("",), ("nnb",)):
            self.leave(("tree", halves), STAR_TREE)
            self.leave(("tree", halves), ((), ()))

    def test_a_knot_left_out(self):
        knots, ties = STAR_TREE
        for knot in knots:
            rest = tuple(other for other in knots if other != knot)
            self.leave(("tree", STAR), (rest, ties))
            self.leave(("tree", STAR), (rest, tuple(tie for tie in ties if knot not in tie)))
        self.leave(("tree", ("n", "y")), (("n",), ()))
        self.leave(("tree", ("n", "y")), ((), ()))

    def test_a_knot_put_in(self):
        knots, ties = STAR_TREE
        for half in all_texts("ny", 3):
            more = tuple(sorted(knots + (half,)))
            self.leave(("tree", STAR), (more, ties))
            for tie in all_ties(tuple(sorted({half, *knots}))):
                if half in tie:
                    self.leave(("tree", STAR), (more, tuple(sorted(ties + (tie,)))))
        self.leave(("tree", ("nn",)), (("nn", "ny"), (("nn", "ny", (1,)),)))
        self.leave(("tree", ("nn",)), (("nn", "ny"), ()))

    def test_a_tie_left_out_or_twice(self):
        knots, ties = STAR_TREE
        for at, tie in enumerate(ties):
            self.leave(("tree", STAR), (knots, ties[:at] + ties[at + 1:]))
            self.leave(("tree", STAR), (knots, tuple(sorted(ties + (tie,)))))
            self.leave(("tree", STAR), (knots, ties[:at] + ties[:1] + ties[at + 1:]) if at else (knots, ties[1:2] + ties[1:]))

    def test_a_tie_turned_about(self):
        knots, ties = STAR_TREE
        for at, (one, other, places) in enumerate(ties):
            for order in itertools.permutations(ties[:at] + ((other, one, places),) + ties[at + 1:]):
                self.leave(("tree", STAR), (knots, order))
        self.leave(("tree", ("n", "y")), (("n", "y"), (("y", "n", (0,)),)))

    def test_a_tie_with_other_places(self):
        knots, ties = STAR_TREE
        for at, (one, other, places) in enumerate(ties):
            for wrong in parts_of(range(3)) + [places * 2, list(places), places[0], (str(places[0]),), (-1,), (3,), None]:
                if wrong != places:
                    self.leave(("tree", STAR), (knots, ties[:at] + ((one, other, wrong),) + ties[at + 1:]))
        for wrong in ((1, 0), (0,), (1,), (), (0, 0, 1), (0, 1, 2), (False, True), (0, True), (False, 1)):
            self.leave(("tree", ("nn", "yy")), (("nn", "yy"), (("nn", "yy", wrong),)))
        self.take(("tree", ("nn", "yy")), (("nn", "yy"), (("nn", "yy", (0, 1)),)))

    def test_a_tie_of_what_is_no_knot(self):
        knots, ties = STAR_TREE
        self.leave(("tree", STAR), (knots, ties[:2] + (("nyy", "yyy", (0,)),)))
        self.leave(("tree", STAR), (knots, (("nnn", "nn", (2,)),) + ties[1:]))

    def test_a_tie_of_other_parts(self):
        for tie in (("n", "y"), ("n", "y", (0,), ()), ("n", "n", ()), ["n", "y", (0,)], "ny0", None, ()):
            self.leave(("tree", ("n", "y")), (("n", "y"), (tie,)))

    def test_an_untold_knot_with_two_ties(self):
        path = (("nn", "ny", "yy"), (("nn", "ny", (1,)), ("ny", "yy", (0,))))
        self.leave(("tree", ("nn", "yy")), path)
        self.take(("tree", ("nn", "ny", "yy")), path)
        knots, ties = STAR_TREE
        self.leave(("tree", STAR[:2] + ("nnn",)), STAR_TREE)
        self.leave(("tree", ("nny", "nyn")), (knots[:3], ties[:2]))

    def test_a_place_that_changes_twice(self):
        square = ("nn", "ny", "yn", "yy")
        for left in range(4):
            ties = all_ties(square)
            around = [tie for tie in ties if len(tie[2]) == 1]
            self.leave(("tree", square), (square, tuple(around[:left] + around[left + 1:])))
        self.leave(("tree", square), (square, tuple(around)))

    def test_orders_that_do_not_rise(self):
        knots, ties = STAR_TREE
        for order in itertools.permutations(knots):
            (self.take if order == knots else self.leave)(("tree", STAR), (order, ties))
        for order in itertools.permutations(ties):
            (self.take if order == ties else self.leave)(("tree", STAR), (knots, order))
        self.leave(("tree", ("n",)), (("n", "n"), ()))

    def test_other_parts(self):
        knots, ties = STAR_TREE
        for paper in (STAR_TREE + ((),), (knots,), (), None, knots, ties, (ties, knots), list(STAR_TREE), (list(knots), ties), (knots, list(ties)),
                      (knots, None), (None, ties), (None, None), {0: knots, 1: ties}):
            self.leave(("tree", STAR), paper)

    def test_all_papers_of_two_places(self):
        """Just one of all knots and ties is taken, and none where the half-rows cross."""
        all_knots = parts_of(all_texts("ny", 2))
        papers = [(knots, ties) for knots in all_knots for ties in parts_of(all_ties(knots))]
        for halves in all_knots[1:]:
            taken = [paper for paper in papers if self.ask(("tree", halves), paper)]
            self.assertEqual(taken, [] if crossing_of(halves) else [tree_of(halves)])

    def test_drawn_half_rows(self):
        chance = chances(121)
        trees = 0
        for _ in range(300):
            halves = some_halves(chance, 8, 12)
            if crossing_of(halves) is not None:
                knots = tuple(sorted(set(halves)))
                self.leave(("tree", halves), (knots, tuple(all_ties(knots))[:len(knots) - 1]))
                continue
            tree = tree_of(halves)
            self.take(("tree", halves), tree)
            for wrong in listed(tree) + bent(tree, chance.choice([None, 0, (), "n" * len(halves[0]), tree])):
                if repr(wrong) != repr(tree):
                    self.leave(("tree", halves), wrong)
            trees += 1
        self.assertGreater(trees, 100)

    def test_other_ties_between_the_right_knots(self):
        chance = chances(122)
        for _ in range(60):
            halves = some_halves(chance, 5, 5)
            if crossing_of(halves) is None and len(tree_of(halves)[0]) <= 5:
                knots, ties = tree_of(halves)
                for others in itertools.combinations(all_ties(knots), len(ties)):
                    (self.take if others == ties else self.leave)(("tree", halves), (knots, others))


class Crossing(CheckerCase):
    HALVES = ("nnn", "nyn", "yny", "yyn", "nny", "nyy")
    GOOD = (0, 1, ("nnn", "nyn", "yny", "yyn"))

    def test_any_four_that_show_the_pairs(self):
        self.take(("crossing", self.HALVES), self.GOOD)
        self.take(("crossing", self.HALVES), (0, 1, ("nny", "nyn", "yny", "yyn")))
        self.take(("crossing", self.HALVES), (0, 1, ("nny", "nyy", "yny", "yyn")))
        self.take(("crossing", self.HALVES), (0, 2, ("nyn", "nny", "yyn", "yny")))
        self.take(("crossing", self.HALVES), (1, 2, ("nnn", "nny", "yyn", "nyy")))
        self.take(("crossing", self.HALVES * 2), self.GOOD)

    def test_half_rows_that_are_none_of_them(self):
        self.leave(("crossing", self.HALVES[1:]), self.GOOD)
        self.leave(("crossing", self.HALVES), (0, 1, ("nnn", "nyn", "ynn", "yyn")))
        for four in (("nnn", "nyn", "yny", "yyn", "yyn"), ("nnn", "nyn", "yny"), (), None, list(self.GOOD[2]), "nnn", ("nnn", "nyn", "yny", "yy")):
            self.leave(("crossing", self.HALVES), (0, 1, four))

    def test_places(self):
        for first, second in ((1, 0), (0, 0), (0, 3), (-3, 1), (-3, -2), (False, True), (0, True), (False, 1), ("0", "1"), (None, 1),
                              (0, 10 ** 30), (-10 ** 30, 0), ((0,), 1)):
            self.leave(("crossing", self.HALVES), (first, second, self.GOOD[2]))
        self.leave(("crossing", self.HALVES), (0, 2, self.GOOD[2]))

    def test_other_parts(self):
        for paper in (None, (), self.GOOD[:2], self.GOOD + (0,), list(self.GOOD), (self.GOOD,), "01n"):
            self.leave(("crossing", self.HALVES), paper)

    def test_what_are_no_half_rows(self):
        for halves in ((), self.HALVES + ("nn",), self.HALVES + ("nnb",), self.HALVES + (None,), list(self.HALVES), None):
            self.leave(("crossing", halves), self.GOOD)

    def test_half_rows_that_do_not_cross(self):
        for four in itertools.product(STAR, repeat=4):
            for first, second in itertools.combinations(range(3), 2):
                self.leave(("crossing", STAR), (first, second, four))

    def test_all_papers_of_few_half_rows(self):
        chance = chances(123)
        taken = 0
        for _ in range(12):
            places = chance.choice([2, 3])
            halves = tuple(chance.sample(all_texts("ny", places), 4))
            for four in itertools.product(sorted({*halves, "n" * places}), repeat=4):
                for first, second in itertools.product(range(places), repeat=2):
                    good = first < second and set(four) <= set(halves) and [half[first] + half[second] for half in four] == list(PAIRS)
                    self.assertIs(self.ask(("crossing", halves), (first, second, four)), good)
                    taken += good
        self.assertGreater(taken, 2)


if __name__ == "__main__":
    unittest.main()
