import copy
import string
import unittest

from hidhalves.errors import NoName, NoRoom, NoRow
from hidhalves.rows import book_with, book_without, is_book, is_half, is_name, is_row, is_same, is_whole, row_in
from tests.things import LikeAll, all_texts, bent, listed, odd_things

NAMES = ["a", "b", "c", "d", "e", "f", "g", "h", "i", "j", "k"]
THREE = (3, (("ann", "nby"), ("bob", "bbb"), ("cy", "nby")))


def full_book(many=10):
    return (2, tuple((name, "nb") for name in NAMES[:many]))


class Kinds(unittest.TestCase):
    def test_whole_numbers(self):
        for thing in (0, 1, -1, 10 ** 30):
            self.assertIs(is_whole(thing), True)
        for thing in (True, False, None, "1", b"1", [1], (1,)):
            self.assertIs(is_whole(thing), False)

    def test_the_same_all_through(self):
        standing = ("row", 1, ("a", (0, "n")), ())
        self.assertIs(is_same(("row", 1, ("a", (0, "n")), ()), standing), True)
        for thing in listed(standing) + odd_things() + [LikeAll(), standing[:3], standing + ((),), (standing,)]:
            self.assertIs(is_same(thing, standing), False)
        for thing in odd_things() + [True, 2, "1", LikeAll(), ["a"]]:
            for other in bent(standing, thing):
                self.assertIs(is_same(other, standing), other == standing and repr(other) == repr(standing))

    def test_names(self):
        for thing in list(string.ascii_lowercase) + ["ab", "places", "zzzzzzzz", "abcdefgh", "n", "b", "y"]:
            self.assertIs(is_name(thing), True, thing)

    def test_no_names(self):
        for thing in ["", "abcdefghi", "A", "aB", "Z", "a1", "1", "a b", " a", "a ", "a\n", "\na", "a\nb", "a_b",
                      "a-b", "`", "{", "@", "[", "a.b", "\u00e4", "\u0430", "\uff41", "a\x00"]:
            self.assertIs(is_name(thing), False, repr(thing))

    def test_half_rows(self):
        for length in range(1, 9):
            for thing in all_texts("ny", length):
                self.assertIs(is_half(thing), True)
        for thing in ["", "nnnnnnnnn", "nynynynyn", "b", "nb", "bn", "N", "nY", "n\n", "\n", " n", "n ", "x", "o",
                      "m", "z", "nyo", "0", "1"]:
            self.assertIs(is_half(thing), False, repr(thing))

    def test_rows(self):
        for length in range(1, 5):
            for thing in all_texts("bny", length):
                self.assertIs(is_row(thing), True)
        for thing in ["bbbbbbbb", "nybnybny", "nnnnnnnn"]:
            self.assertIs(is_row(thing), True)
        for thing in ["", "bbbbbbbbb", "nnnnnnnnn", "nybnybnyb", "B", "nB", "o", "no", "a", "c", "n\n", "\nn", "n b", " "]:
            self.assertIs(is_row(thing), False, repr(thing))

    def test_things_of_other_kinds(self):
        for thing in odd_things():
            self.assertIs(is_half(thing), False)
            self.assertIs(is_row(thing), False)
            self.assertIs(is_book(thing), False)
            self.assertIs(is_name(thing), False)

    def test_characters_in_a_list_or_tuple_are_no_text(self):
        for thing in (["n", "y"], ("n", "y"), {"n": 1}, b"ny", bytearray(b"ny")):
            for asked in (is_name, is_half, is_row):
                self.assertIs(asked(thing), False)


class Books(unittest.TestCase):
    def test_books(self):
        for places in range(1, 9):
            self.assertIs(is_book((places, ())), True)
            self.assertIs(is_book((places, (("a", "b" * places),))), True)
        for many in range(11):
            self.assertIs(is_book(full_book(many)), True, many)
        self.assertIs(is_book(THREE), True)
        self.assertIs(is_book((8, (("places", "nybnybny"), ("abcdefgh", "nybnybny")))), True)

    def test_eleven_rows_are_too_many(self):
        self.assertIs(is_book(full_book(11)), False)

    def test_places(self):
        for places in (0, -1, 9, 10, 10 ** 30, True, False, None, "3", b"3", (3,), [3]):
            self.assertIs(is_book((places, ())), False)
        self.assertIs(is_book((True, (("a", "b"),))), False)
        self.assertIs(is_book((9, (("a", "b" * 9),))), False)
        self.assertIs(is_book((0, (("a", ""),))), False)

    def test_rows_of_another_length(self):
        for row in ("", "n", "nn", "nnnn", "bbbbbbbb"):
            self.assertIs(is_book((3, (("a", row),))), False)
            self.assertIs(is_book((3, (("a", "nby"), ("c", row)))), False)

    def test_alike_names(self):
        self.assertIs(is_book((1, (("a", "n"), ("a", "n")))), False)
        self.assertIs(is_book((1, (("a", "n"), ("b", "b"), ("a", "y")))), False)

    def test_alike_rows_by_unlike_names(self):
        self.assertIs(is_book((1, (("a", "n"), ("b", "n"), ("c", "n")))), True)

    def test_written_otherwise(self):
        named = ("a", "nby")
        for thing in [[3, (named,)], (3, [named]), (3, (["a", "nby"],)), (3, named), (3,), (3, (named,), ()), ((named,), 3),
                      (3, ((),)), (3, (("a",),)), (3, (("a", "nby", "n"),)), (3, (("nby", "a"),)), (3, (("A", "nby"),)),
                      (3, (("", "nby"),)), (3, (("a", "nbo"),)), (3, ("a nby",)), (3, {named: 1}), (3, {"a": "nby"}),
                      {3: (named,)}, (3, None), (3, "anby"), (2, ("ab", "cd")), (1, ("ab",)), (1, ("an",)), 3, "places 3"]:
            self.assertIs(is_book(thing), False, repr(thing))

    def test_any_kind_in_each_place(self):
        for thing in odd_things():
            self.assertIs(is_book((thing, ())), False)
            if not (isinstance(thing, tuple) and thing == ()):
                self.assertIs(is_book((3, thing)), False)
            self.assertIs(is_book((3, (thing,))), False)
            self.assertIs(is_book((3, (("a", "nby"), thing))), False)
            self.assertIs(is_book((3, ((thing, "nby"),))), False)
            self.assertIs(is_book((3, (("a", thing),))), False)


class WithARowMore(unittest.TestCase):
    def test_it_stands_behind_all_others(self):
        self.assertEqual(book_with((3, ()), "a", "nby"), (3, (("a", "nby"),)))
        self.assertEqual(book_with(THREE, "aa", "yyy"), (3, THREE[1] + (("aa", "yyy"),)))
        self.assertEqual(book_with(THREE, "zz", "nby"), (3, THREE[1] + (("zz", "nby"),)))

    def test_a_tenth_row_has_room(self):
        book = (2, ())
        for name in NAMES[:10]:
            book = book_with(book, name, "nb")
        self.assertEqual(book, full_book())
        self.assertIs(is_book(book), True)

    def test_no_name(self):
        for thing in odd_things() + ["abcdefghi", "Ann", "a1", "a\n", 0, 3]:
            with self.assertRaises(NoName) as caught:
                book_with(THREE, thing, "nby")
            self.assertIs(caught.exception.name, thing)

    def test_a_name_that_stands(self):
        for name in ("ann", "bob", "cy"):
            with self.assertRaises(NoName) as caught:
                book_with(THREE, name, "yyy")
            self.assertEqual(caught.exception.name, name)

    def test_no_row(self):
        for thing in odd_things() + ["nn", "nnnn", "nbo", "NBY", ["n", "b", "y"], ("n", "b", "y"), b"nby", 0, 3]:
            with self.assertRaises(NoRow):
                book_with(THREE, "dee", thing)

    def test_no_room(self):
        with self.assertRaises(NoRoom):
            book_with(full_book(), "k", "nb")
        with self.assertRaises(NoRoom):
            book_with((8, tuple((name, "b" * 8) for name in NAMES[:10])), "k", "b" * 8)

    def test_the_order_of_refusals(self):
        for name in ("a", "j", "K", None, 5):
            for row in ("nb", "nbb", None):
                with self.assertRaises(NoName):
                    book_with(full_book(), name, row)
        for row in ("nbb", "n", None, 5):
            with self.assertRaises(NoRow):
                book_with(full_book(), "k", row)
        with self.assertRaises(NoName):
            book_with(THREE, "ann", "n")

    def test_the_book_stays_as_it_was(self):
        for book in (THREE, full_book(), (3, ())):
            before = copy.deepcopy(book)
            for name, row in (("new", "nb"), ("new", "nby"), ("ann", "nby"), (None, "nby"), ("new", None)):
                try:
                    book_with(book, name, row)
                except ValueError:
                    pass
                self.assertEqual(book, before)

    def test_each_tuple_is_new(self):
        told, anew = book_with(THREE, "dee", "nnn"), book_with(THREE, "dee", "nnn")
        self.assertEqual(told, anew)
        self.assertIsNot(told, anew)
        self.assertIsNot(told[1], anew[1])
        self.assertIsNot(told[1][0], THREE[1][0])


class WithoutARow(unittest.TestCase):
    def test_each_row_taken_out(self):
        ann, bob, cy = THREE[1]
        self.assertEqual(book_without(THREE, "ann"), (3, (bob, cy)))
        self.assertEqual(book_without(THREE, "bob"), (3, (ann, cy)))
        self.assertEqual(book_without(THREE, "cy"), (3, (ann, bob)))
        self.assertEqual(book_without((1, (("a", "b"),)), "a"), (1, ()))

    def test_it_takes_out_what_was_put_in(self):
        self.assertEqual(book_without(book_with(THREE, "dee", "yyy"), "dee"), THREE)
        self.assertEqual(len(book_without(full_book(), "e")[1]), 9)

    def test_no_name(self):
        for book in (THREE, (3, ()), full_book()):
            for thing in odd_things() + ["dee", "an", "annn", "nby", "Ann", 0, ("ann", "nby"), ("ann",), ["ann"]]:
                with self.assertRaises(NoName) as caught:
                    book_without(book, thing)
                self.assertIs(caught.exception.name, thing)

    def test_the_book_stays_as_it_was(self):
        before = copy.deepcopy(THREE)
        told = book_without(THREE, "bob")
        self.assertEqual(THREE, before)
        self.assertIsNot(told[1][0], THREE[1][0])


class ANamesRow(unittest.TestCase):
    def test_rows(self):
        self.assertEqual([row_in(THREE, name) for name in ("ann", "bob", "cy")], ["nby", "bbb", "nby"])

    def test_no_name(self):
        for book in (THREE, (3, ()), full_book()):
            for thing in odd_things() + ["dee", "an", "annn", "nby", "Ann", 0, ("ann", "nby"), ["ann"]]:
                with self.assertRaises(NoName) as caught:
                    row_in(book, thing)
                self.assertIs(caught.exception.name, thing)


if __name__ == "__main__":
    unittest.main()
