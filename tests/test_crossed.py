import copy
import itertools
import unittest

from hidhalves.crossed import crossed
from hidhalves.families import is_family, whole_tellings
from tests.things import all_texts, chances, some_family
from tests.trials import crossings_in, fewest_by_trial, never_by_trial, row_by_trial, young_by


class Crossed(unittest.TestCase):
    def look_at(self, family):
        """What is told of the family, held against the words of point 17 but for there being no fewer."""
        before = copy.deepcopy(family)
        told = crossed(family)
        self.assertEqual(family, before)
        self.assertIs(type(told), tuple)
        if told[0] == "never":
            self.assertEqual(told, ("never", never_by_trial(family)))
            self.assertIs(type(told[1]), int)
            return None
        word, many, telling = told
        self.assertEqual((word, type(many), type(telling)), ("crossed", int, tuple))
        self.assertIsNone(never_by_trial(family))
        self.look_at_telling(family, many, telling)
        return many

    def look_at_telling(self, family, many, telling):
        one, other, young = family
        a, b, ways = telling
        self.assertEqual([type(a), type(b), type(ways)], [tuple, tuple, tuple])
        for row, halves in ((one, a), (other, b)):
            self.assertEqual(len(halves), 2)
            for half in halves:
                self.assertEqual(len(half), len(row))
                self.assertLessEqual(set(half), set("ny"))
            self.assertEqual(row_by_trial(*halves), row)
        self.assertEqual(len(ways), len(young))
        for row, way in zip(young, ways):
            self.assertIs(type(way), tuple)
            u, v = way
            self.assertEqual((len(u), len(v)), (len(row), len(row)))
            self.assertLessEqual(set(u + v), set("01"))
            self.assertEqual(young_by(a, b, u, v), row)
        self.assertEqual(many, sum(crossings_in(text) for way in ways for text in way))

    def test_without_crossings(self):
        for family in [("n", "n", ("n",)), ("b", "b", ("n", "b", "y")), ("bb", "nn", ("nn", "bb")), ("bbb", "bbb", ("bbb",) * 3),
                       ("bbbb", "nnnn", ("bbnn", "nnbb")), ("nbynbyny", "bnbybbnn", (row_by_trial("nnynyyny", "nnnyyynn"),))]:
            self.assertEqual(self.look_at(family), 0)

    def test_with_crossings(self):
        self.assertEqual(self.look_at(("bb", "nn", ("bb", "nb"))), 1)
        self.assertEqual(self.look_at(("bbb", "nnn", ("bbb", "nbn"))), 2)
        self.assertEqual(self.look_at(("bbbb", "nnnn", ("bbbb", "nbnb"))), 3)
        self.assertEqual(self.look_at(("bbbbbbbb", "nnnnnnnn", ("bbbbbbbb", "nbnbnbnb", "nnnnnnnn"))), 7)

    def test_a_mark_between_lets_the_way_cross_anywhere(self):
        self.assertEqual(self.look_at(("bnb", "nnn", ("bnb", "bnn"))), 1)
        self.assertEqual(self.look_at(("bynnb", "nynnn", ("bynnb", "bynnn"))), 1)

    def test_never(self):
        self.assertEqual(crossed(("n", "n", ("b",))), ("never", 0))
        self.assertEqual(crossed(("nn", "nn", ("nb",))), ("never", 1))
        self.assertEqual(crossed(("nbn", "nbn", ("nbn", "nyy"))), ("never", 2))
        self.assertEqual(crossed(("nbny", "nbnn", ("nbnb", "nbnn"))), ("never", 3))
        self.assertEqual(crossed(("nnn", "nnn", ("nyn", "nny", "nnn"))), ("never", 1))
        self.assertEqual(crossed(("nnn", "yyy", ("bbb", "bbn", "nbb"))), ("never", 0))
        self.assertEqual(crossed(("nnnnnnnn", "nnnnnnnn", ("nnnnnnny",))), ("never", 7))

    def test_marks_of_one_place(self):
        for one, other in itertools.product("nby", repeat=2):
            for many in (1, 2, 3):
                for young in itertools.product("nby", repeat=many):
                    self.assertEqual(self.look_at((one, other, young)), fewest_by_trial((one, other, young)))

    def test_all_families_of_two_places_and_one_young_one(self):
        for one, other, young in itertools.product(all_texts("bny", 2), repeat=3):
            self.assertEqual(self.look_at((one, other, (young,))), fewest_by_trial((one, other, (young,))))

    def test_small_families_by_trial(self):
        chance = chances(83)
        found = []
        for _ in range(250):
            family = some_family(chance, 4, 0.05, "nbby")
            self.assertTrue(is_family(family))
            found.append(self.look_at(family))
            self.assertEqual(found[-1], fewest_by_trial(family), family)
        for many in (None, 0, 1, 2):
            self.assertGreater(found.count(many), 5, many)

    def test_families_of_many_b_by_trial(self):
        chance = chances(84)
        found = []
        for _ in range(60):
            family = some_family(chance, 4, 0, "bbbn")
            found.append(self.look_at(family))
            self.assertEqual(found[-1], fewest_by_trial(family), family)
        self.assertGreater(max(found), 2)

    def test_none_are_crossed_just_where_there_is_a_whole_telling(self):
        chance = chances(85)
        for _ in range(200):
            family = some_family(chance, 5, 0.02)
            self.assertEqual(self.look_at(family) == 0, whole_tellings(family) != [], family)

    def test_eight_places_and_three_young_ones(self):
        chance = chances(86)
        self.look_at(("bbbbbbbb", "bbbbbbbb", ("bbbbbbbb", "nbybnyyb", "ynnbbnby")))
        for _ in range(60):
            family = some_family(chance, 8, 0.02, "nbby", least=8)
            self.look_at(family)

    def test_old_rows_are_parted_so_that_most_young_ones_need_not_cross(self):
        for young in (("bbbb", "nbnb", "nbnb"), ("nbnb", "bbbb", "bbbb"), ("nbnb", "bbbb", "nbnb")):
            family = ("bbbb", "nnnn", young)
            self.assertEqual(self.look_at(family), 3)
            self.assertEqual(fewest_by_trial(family), 3)

    def test_told_anew(self):
        family = ("bb", "nn", ("bb", "nb"))
        one, other = crossed(family), crossed(family)
        self.assertEqual(one, other)
        self.assertIsNot(one, other)
        self.assertIsNot(one[2], other[2])


if __name__ == "__main__":
    unittest.main()
