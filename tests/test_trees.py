import copy
import itertools
import unittest

from hidhalves.crossings import crossing_of
from hidhalves.errors import NoKnot, NoTree
from hidhalves.trees import tree_of, way_on
from tests.things import LikeAll, all_texts, chances, in_other_orders, odd_things, some_text


def changing(halves):
    return [place for place in range(len(halves[0])) if len({half[place] for half in halves}) > 1]


def unlike(one, other):
    return tuple(place for place in range(len(one)) if one[place] != other[place])


def reached_from(start, ties):
    seen, fresh = {start}, [start]
    while fresh:
        knot = fresh.pop()
        for one, other, _ in ties:
            for near, far in ((one, other), (other, one)):
                if near == knot and far not in seen:
                    seen.add(far)
                    fresh.append(far)
    return seen


def is_right_tree(halves, knots, ties):
    """Straight from the words of point 8, one after another."""
    if list(knots) != sorted(set(knots)) or not set(halves) <= set(knots):
        return False
    if list(ties) != sorted(set(ties)):
        return False
    for one, other, places in ties:
        if not (one < other and one in knots and other in knots and places == unlike(one, other) and places):
            return False
    if sorted(place for tie in ties for place in tie[2]) != changing(halves):
        return False
    if len(ties) != len(knots) - 1 or reached_from(knots[0], ties) != set(knots):
        return False
    return all(sum(knot in tie[:2] for tie in ties) >= 3 for knot in knots if knot not in halves)


def all_right_trees(halves):
    """All trees gone through: no tree has more ties than places that change."""
    others = [half for half in all_texts("ny", len(halves[0])) if half not in halves]
    found = []
    room = len(changing(halves)) + 1 - len(set(halves))
    for more in range(room + 1):
        for extra in itertools.combinations(others, more):
            knots = tuple(sorted(set(halves) | set(extra)))
            pairs = [(one, other, unlike(one, other)) for one, other in itertools.combinations(knots, 2)]
            for ties in itertools.combinations(sorted(pairs), len(knots) - 1):
                if is_right_tree(halves, knots, ties):
                    found.append((knots, ties))
    return found


def grown_halves(chance, places, many):
    """Half-rows that don't cross: each place changes once on a tree that grows by chance."""
    knots = [some_text(chance, "ny", places)]
    order = list(range(places))
    chance.shuffle(order)
    while order:
        size = min(len(order), chance.choice((1, 1, 1, 2, 3)))
        turned, order = order[:size], order[size:]
        grown = chance.choice(knots)
        knots.append("".join(("y" if sign == "n" else "n") if at in turned else sign for at, sign in enumerate(grown)))
    return tuple(chance.choice(knots) for _ in range(many))


class Trees(unittest.TestCase):
    def test_one_knot(self):
        for half in ("n", "y", "nyy", "yyyyyyyy"):
            self.assertEqual(tree_of((half,)), ((half,), ()))
            self.assertEqual(tree_of((half, half, half)), ((half,), ()))

    def test_two_knots(self):
        self.assertEqual(tree_of(("y", "n")), (("n", "y"), (("n", "y", (0,)),)))
        self.assertEqual(tree_of(("yyn", "ynn")), (("ynn", "yyn"), (("ynn", "yyn", (1,)),)))

    def test_all_knots_are_told(self):
        told = tree_of(("nnn", "nny", "nyn", "ynn"))
        self.assertEqual(told, (("nnn", "nny", "nyn", "ynn"),
                                (("nnn", "nny", (2,)), ("nnn", "nyn", (1,)), ("nnn", "ynn", (0,)))))
        told = tree_of(("nnn", "nny", "nyy", "yyy"))
        self.assertEqual(told, (("nnn", "nny", "nyy", "yyy"),
                                (("nnn", "nny", (2,)), ("nny", "nyy", (1,)), ("nyy", "yyy", (0,)))))

    def test_a_knot_that_is_not_told(self):
        told = tree_of(("ynn", "nyn", "nny"))
        self.assertEqual(told, (("nnn", "nny", "nyn", "ynn"),
                                (("nnn", "nny", (2,)), ("nnn", "nyn", (1,)), ("nnn", "ynn", (0,)))))

    def test_two_knots_that_are_not_told(self):
        told = tree_of(("nnnny", "nnnyn", "nyynn", "ynynn"))
        self.assertEqual(told[0], ("nnnnn", "nnnny", "nnnyn", "nnynn", "nyynn", "ynynn"))
        self.assertEqual(told[1], (("nnnnn", "nnnny", (4,)), ("nnnnn", "nnnyn", (3,)), ("nnnnn", "nnynn", (2,)),
                                   ("nnynn", "nyynn", (1,)), ("nnynn", "ynynn", (0,))))

    def test_ties_of_several_places(self):
        self.assertEqual(tree_of(("nnn", "yyy")), (("nnn", "yyy"), (("nnn", "yyy", (0, 1, 2)),)))
        self.assertEqual(tree_of(("nyn", "yny")), (("nyn", "yny"), (("nyn", "yny", (0, 1, 2)),)))
        told = tree_of(("nnnn", "nyyn", "ynny"))
        self.assertEqual(told, (("nnnn", "nyyn", "ynny"), (("nnnn", "nyyn", (1, 2)), ("nnnn", "ynny", (0, 3)))))

    def test_places_at_which_all_are_alike(self):
        told = tree_of(("nyny", "nyyy", "nynn"))
        self.assertEqual(told, (("nynn", "nyny", "nyyy"), (("nynn", "nyny", (3,)), ("nyny", "nyyy", (2,)))))

    def test_kinds(self):
        knots, ties = tree_of(("ynn", "nyn", "nny"))
        for thing in (tree_of(("ynn", "nyn", "nny")), knots, ties, ties[0], ties[0][2]):
            self.assertIsInstance(thing, tuple)
        self.assertIsNot(tree_of(("ynn", "nyn"))[0], tree_of(("ynn", "nyn"))[0])

    def test_small_cases_gone_through_by_all_trees(self):
        for places in (1, 2, 3):
            for many in range(1, 9):
                for some in itertools.combinations(all_texts("ny", places), many):
                    if crossing_of(some) is None:
                        self.assertEqual(all_right_trees(some), [tree_of(some)], some)

    def test_some_cases_of_four_places_gone_through_by_all_trees(self):
        for some in (("nnny", "nnyn", "nynn", "ynnn"), ("nnny", "nyyn", "ynnn"), ("nnnn", "nyyn", "nyyy", "ynnn"),
                     ("nnyy", "nyyy", "yynn"), ("nnyy", "yynn", "yyyy"), ("nynn", "ynnn", "yyny")):
            self.assertEqual(all_right_trees(some), [tree_of(some)], some)

    def test_all_small_cases_are_right(self):
        for many in range(1, 6):
            for some in itertools.combinations(all_texts("ny", 4), many):
                if crossing_of(some) is None:
                    self.assertTrue(is_right_tree(some, *tree_of(some)), some)

    def test_grown_ones_are_right_in_any_order_and_with_some_twice(self):
        chance = chances(11)
        for turn in range(500):
            halves = grown_halves(chance, chance.randint(1, 8), 40 if turn % 25 == 0 else chance.randint(1, 10))
            told = tree_of(halves)
            self.assertTrue(is_right_tree(halves, *told), halves)
            for other in in_other_orders(halves, 4):
                self.assertEqual(tree_of(other), told)
            self.assertEqual(tree_of(halves[::-1]), told)
            self.assertEqual(tree_of(halves + halves[:1]), told)

    def test_no_tree_where_they_cross(self):
        with self.assertRaises(NoTree) as caught:
            tree_of(("yy", "nn", "yn", "ny"))
        self.assertEqual(caught.exception.crossing, (0, 1, ("nn", "ny", "yn", "yy")))
        chance = chances(13)
        refused = 0
        for _ in range(300):
            places = chance.randint(1, 8)
            halves = tuple(some_text(chance, "ny", places) for _ in range(chance.randint(1, 8)))
            crossing = crossing_of(halves)
            if crossing is None:
                self.assertTrue(is_right_tree(halves, *tree_of(halves)))
            else:
                refused += 1
                with self.assertRaises(NoTree) as caught:
                    tree_of(halves)
                self.assertEqual(caught.exception.crossing, crossing)
        self.assertGreater(refused, 50)


class Ways(unittest.TestCase):
    tree = tree_of(("nnnny", "nnnyn", "nyynn", "ynynn"))

    def test_ways(self):
        self.assertEqual(way_on(self.tree, "nnnny", "ynynn"), ["nnnny", "nnnnn", "nnynn", "ynynn"])
        self.assertEqual(way_on(self.tree, "ynynn", "nnnny"), ["ynynn", "nnynn", "nnnnn", "nnnny"])
        self.assertEqual(way_on(self.tree, "nnnnn", "nnynn"), ["nnnnn", "nnynn"])
        self.assertEqual(way_on(self.tree, "nnnyn", "nnnny"), ["nnnyn", "nnnnn", "nnnny"])

    def test_from_a_knot_to_itself(self):
        for knot in self.tree[0]:
            self.assertEqual(way_on(self.tree, knot, knot), [knot])
        self.assertEqual(way_on((("ny",), ()), "ny", "ny"), ["ny"])

    def assert_way(self, tree, one, other):
        way = way_on(tree, one, other)
        self.assertIsInstance(way, list)
        self.assertEqual((way[0], way[-1]), (one, other))
        self.assertEqual(len(set(way)), len(way))
        tied = [{tie[0], tie[1]} for tie in tree[1]]
        for here, there in zip(way, way[1:]):
            self.assertIn({here, there}, tied)
        self.assertEqual(way_on(tree, other, one), way[::-1])

    def test_ways_between_all_two_knots(self):
        chance = chances(17)
        trees = [self.tree, tree_of(("nyn", "yny")), tree_of(tuple("n" * at + "y" * (8 - at) for at in range(9)))]
        trees += [tree_of(grown_halves(chance, chance.randint(1, 8), 9)) for _ in range(60)]
        for tree in trees:
            for one in tree[0]:
                for other in tree[0]:
                    self.assert_way(tree, one, other)

    def test_a_told_list_changed_and_the_same_told_anew(self):
        before = copy.deepcopy(self.tree)
        way = way_on(self.tree, "nnnny", "ynynn")
        way.reverse()
        way.append("x")
        self.assertEqual(way_on(self.tree, "nnnny", "ynynn"), ["nnnny", "nnnnn", "nnynn", "ynynn"])
        self.assertEqual(self.tree, before)

    def test_no_knot(self):
        things = ["nnnn", "nnnnnn", "yyyyy", "nnnyy", "NNNNN", ["nnnnn"], ("nnnnn",), b"nnnnn", LikeAll(), 0, 1,
                  ("nnnnn", "nnnny"), self.tree[1][0], "n"]
        for thing in odd_things() + things:
            for one, other in ((thing, "nnnnn"), ("nnnnn", thing), (thing, thing), (thing, "x"), ("x", thing)):
                with self.assertRaises(NoKnot):
                    way_on(self.tree, one, other)
        self.assertEqual(way_on(self.tree, "nnnnn", "nnnny"), ["nnnnn", "nnnny"])


if __name__ == "__main__":
    unittest.main()
