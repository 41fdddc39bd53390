import unittest

from hidhalves.errors import HalvesError, NoName, NoRoom, NoRow, NoUndo
from hidhalves.fitnumbers import many_fits
from hidhalves.keepers import Keeper
from hidhalves.rows import book_with, book_without, is_book
from tests.things import LikeAll, chances, odd_things, some_text
from tests.trials import fits_by_trial

NAMES = ["a", "b", "c", "d", "e", "f", "g", "h", "i", "j", "k"]


def keeper_of(*rows):
    keeper = Keeper(len(rows[0]))
    for name, row in zip(NAMES, rows):
        keeper.add(name, row)
    return keeper


class Making(unittest.TestCase):
    def test_places(self):
        for places in range(1, 9):
            keeper = Keeper(places)
            self.assertEqual(keeper.book(), (places, ()))
            self.assertEqual(keeper.numbers(), [])
            self.assertIsNone(keeper.first_barred())

    def test_no_room(self):
        for thing in odd_things() + [0, 9, 10, -1, True, False, None, "3", b"3", [3], (3,), {3: 3}, LikeAll(), 10 ** 30]:
            with self.assertRaises(NoRoom):
                Keeper(thing)

    def test_each_method_stands_in_the_class(self):
        for method in ("add", "strike", "undo", "book", "numbers", "first_barred"):
            self.assertIn(method, vars(Keeper))


class Deeds(unittest.TestCase):
    def test_rows_in_the_order_in_which_they_were_added(self):
        keeper = Keeper(2)
        self.assertIsNone(keeper.add("zed", "nb"))
        self.assertIsNone(keeper.add("ann", "bb"))
        self.assertIsNone(keeper.add("may", "nb"))
        self.assertEqual(keeper.book(), (2, (("zed", "nb"), ("ann", "bb"), ("may", "nb"))))

    def test_struck(self):
        keeper = keeper_of("nb", "bb", "yy")
        self.assertIsNone(keeper.strike("b"))
        self.assertEqual(keeper.book(), (2, (("a", "nb"), ("c", "yy"))))
        keeper.add("b", "bb")
        self.assertEqual(keeper.book(), (2, (("a", "nb"), ("c", "yy"), ("b", "bb"))))
        for name in ("a", "b", "c"):
            keeper.strike(name)
        self.assertEqual(keeper.book(), (2, ()))

    def test_undo_of_an_add(self):
        keeper = keeper_of("nb", "bb")
        self.assertIsNone(keeper.undo())
        self.assertEqual(keeper.book(), (2, (("a", "nb"),)))
        keeper.undo()
        self.assertEqual(keeper.book(), (2, ()))
        with self.assertRaises(NoUndo):
            keeper.undo()

    def test_undo_of_a_strike_brings_the_row_back_to_its_old_place(self):
        for name in ("a", "b", "c"):
            keeper = keeper_of("nb", "bb", "yy")
            whole = keeper.book()
            keeper.strike(name)
            keeper.undo()
            self.assertEqual(keeper.book(), whole)
            keeper.add("z", "nn")
            self.assertEqual(keeper.book(), (2, whole[1] + (("z", "nn"),)))

    def test_undo_of_several_in_turn(self):
        keeper = keeper_of("nb", "bb", "yy")
        books = [keeper.book()]
        for name in ("b", "a"):
            keeper.strike(name)
            books.append(keeper.book())
        keeper.add("b", "ny")
        self.assertEqual(keeper.book(), (2, (("c", "yy"), ("b", "ny"))))
        for book in reversed(books):
            keeper.undo()
            self.assertEqual(keeper.book(), book)

    def test_undo_is_no_deed(self):
        keeper = keeper_of("nb", "bb")
        keeper.undo()
        keeper.undo()
        with self.assertRaises(NoUndo):
            keeper.undo()
        keeper.add("x", "nn")
        keeper.undo()
        self.assertEqual(keeper.book(), (2, ()))
        with self.assertRaises(NoUndo):
            keeper.undo()

    def test_no_undo_at_first(self):
        keeper = Keeper(3)
        for _ in range(2):
            with self.assertRaises(NoUndo):
                keeper.undo()
        self.assertEqual(keeper.book(), (3, ()))


class Refused(unittest.TestCase):
    def refuse(self, keeper, error, deed, *things):
        before = (keeper.book(), keeper.numbers(), keeper.first_barred())
        with self.assertRaises(error) as caught:
            deed(*things)
        self.assertEqual((keeper.book(), keeper.numbers(), keeper.first_barred()), before)
        return caught.exception

    def test_no_name(self):
        keeper = keeper_of("nb", "bb")
        for thing in odd_things() + ["a", "b", "Ann", "abcdefghi", "a1", 0, LikeAll(), ["c"], ("c",)]:
            self.assertIs(self.refuse(keeper, NoName, keeper.add, thing, "nb").name, thing)

    def test_no_row(self):
        keeper = keeper_of("nb", "bb")
        for thing in odd_things() + ["n", "nbb", "no", "NB", 0, LikeAll(), ["n", "b"], ("n", "b"), b"nb"]:
            self.refuse(keeper, NoRow, keeper.add, "c", thing)

    def test_no_room(self):
        keeper = keeper_of(*["nb"] * 10)
        self.refuse(keeper, NoRoom, keeper.add, "k", "nb")
        self.refuse(keeper, NoRow, keeper.add, "k", "nbb")
        self.refuse(keeper, NoName, keeper.add, "a", "nbb")
        keeper.strike("a")
        keeper.add("k", "nb")
        self.refuse(keeper, NoRoom, keeper.add, "a", "nb")

    def test_the_order_of_refusals(self):
        keeper = keeper_of("nb", "bb")
        for name in ("a", "A", None):
            for row in ("nb", "n", None):
                self.refuse(keeper, NoName, keeper.add, name, row)

    def test_no_name_to_strike(self):
        keeper = keeper_of("nb", "bb")
        for thing in odd_things() + ["c", "A", "", "nb", 0, LikeAll(), ["a"], ("a",), ("a", "nb")]:
            self.assertIs(self.refuse(keeper, NoName, keeper.strike, thing).name, thing)
        keeper.strike("a")
        self.refuse(keeper, NoName, keeper.strike, "a")

    def test_a_refused_deed_is_none(self):
        keeper = keeper_of("nb", "bb")
        for deed, things in ((keeper.add, ("a", "nb")), (keeper.add, ("c", "n")), (keeper.strike, ("z",)), (keeper.add, (None, None))):
            self.refuse(keeper, HalvesError, deed, *things)
        keeper.undo()
        self.assertEqual(keeper.book(), (2, (("a", "nb"),)))
        self.refuse(keeper, NoName, keeper.strike, "b")
        keeper.undo()
        self.refuse(keeper, NoName, keeper.strike, "a")
        self.refuse(keeper, NoUndo, keeper.undo)
        keeper.add("a", "yy")
        self.assertEqual(keeper.book(), (2, (("a", "yy"),)))


class Told(unittest.TestCase):
    def test_numbers(self):
        self.assertEqual(keeper_of("bbb").numbers(), [4])
        self.assertEqual(keeper_of("bbb", "nbn", "nnb", "bnn").numbers(), [4, 4, 2, 0])
        self.assertEqual(keeper_of("nb", "yb", "nn").numbers(), [2 ** 0, 0, 0])

    def test_the_first_barred_row(self):
        self.assertIsNone(keeper_of("bbb", "nbn", "nnb").first_barred())
        self.assertEqual(keeper_of("bbb", "nbn", "nnb", "bnn", "nnn").first_barred(), "d")
        self.assertEqual(keeper_of("nb", "yb", "nn", "yb").first_barred(), "b")
        keeper = keeper_of("nb", "yb", "nn", "yb")
        keeper.strike("b")
        self.assertEqual(keeper.first_barred(), "d")
        keeper.strike("a")
        self.assertIsNone(keeper.first_barred())
        keeper.undo()
        keeper.undo()
        self.assertEqual(keeper.first_barred(), "b")

    def test_told_lists_changed(self):
        keeper = keeper_of("bbb", "nbn")
        told = keeper.numbers()
        told.clear()
        told.append(None)
        self.assertEqual(keeper.numbers(), [4, 4])
        self.assertIsNot(keeper.book(), keeper.book())
        self.assertIsNot(keeper.book()[1][0], keeper.book()[1][0])

    def test_two_keepers_do_not_touch_each_other(self):
        one, other = Keeper(2), Keeper(2)
        one.add("a", "nb")
        self.assertEqual(other.book(), (2, ()))
        with self.assertRaises(NoUndo):
            other.undo()
        other.add("a", "yb")
        other.add("c", "bb")
        one.undo()
        self.assertEqual((one.book(), other.book()), ((2, ()), (2, (("a", "yb"), ("c", "bb")))))
        self.assertEqual((one.numbers(), other.numbers()), ([], [1, 2]))

    def test_ten_rows_of_eight_b(self):
        keeper = keeper_of(*["bbbbbbbb"] * 10)
        self.assertEqual(keeper.numbers(), [128] * 10)
        self.assertIsNone(keeper.first_barred())


class ManyDeeds(unittest.TestCase):
    def one_deed(self, chance, keeper, books):
        """Does one deed, and the same to the list of books, which is as long as there are deeds to take back and one."""
        word, name = chance.choice(["add", "add", "add", "strike", "undo"]), chance.choice(NAMES)
        row = some_text(chance, "nbb", books[0][0]) if chance.random() < 0.9 else "nbx"
        try:
            if word == "add":
                keeper.add(name, row)
            elif word == "strike":
                keeper.strike(name)
            else:
                keeper.undo()
            refused = None
        except HalvesError as error:
            refused = type(error)
        try:
            if word == "undo":
                if len(books) == 1:
                    raise NoUndo()
                books.pop()
            else:
                books.append(book_with(books[-1], name, row) if word == "add" else book_without(books[-1], name))
            wanted = None
        except HalvesError as error:
            wanted = type(error)
        self.assertEqual(refused, wanted)
        return wanted

    def test_against_the_books_of_point_4(self):
        chance = chances(95)
        refusals, barred = set(), 0
        for _ in range(25):
            keeper, books = (lambda places: (Keeper(places), [(places, ())]))(chance.randint(1, 5))
            for _ in range(60):
                refusals.add(self.one_deed(chance, keeper, books))
                places, rows = books[-1]
                self.assertEqual(keeper.book(), books[-1])
                self.assertIs(is_book(keeper.book()), True)
                numbers = [many_fits((places, rows[:many])) for many in range(1, len(rows) + 1)]
                self.assertEqual(keeper.numbers(), numbers)
                first = [name for (name, row), many in zip(rows, numbers) if many == 0][:1]
                self.assertEqual(keeper.first_barred(), first[0] if first else None)
                barred += bool(first)
        self.assertEqual(refusals, {None, NoName, NoRow, NoRoom, NoUndo})
        self.assertGreater(barred, 50)

    def test_against_all_fits_of_small_books(self):
        chance = chances(96)
        for _ in range(40):
            rows = [some_text(chance, "nby", 3) for _ in range(chance.randint(1, 5))]
            keeper = keeper_of(*rows)
            named = list(zip(NAMES, rows))
            self.assertEqual(keeper.numbers(), [len(fits_by_trial((3, named[:many]))) for many in range(1, len(rows) + 1)])


if __name__ == "__main__":
    unittest.main()
