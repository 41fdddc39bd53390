import unittest

from hidhalves.booktexts import read_book, show_book
from hidhalves.errors import NoText
from tests.things import chances, odd_things, some_text

TEN = "abcdefghij"


def lines_of_ten():
    return ["places 2"] + [name + " nb" for name in TEN]


class Written(unittest.TestCase):
    def test_texts(self):
        self.assertEqual(show_book((3, ())), "places 3")
        self.assertEqual(show_book((1, (("a", "b"),))), "places 1\na b")
        self.assertEqual(show_book((3, (("zed", "nby"), ("ann", "bbb")))), "places 3\nzed nby\nann bbb")
        self.assertEqual(show_book((2, tuple((name, "nb") for name in TEN))), "\n".join(lines_of_ten()))

    def test_read(self):
        self.assertEqual(read_book("places 8"), (8, ()))
        self.assertEqual(read_book("places 3\nzed nby\nann bbb"), (3, (("zed", "nby"), ("ann", "bbb"))))
        self.assertEqual(read_book("places 1\nplaces b"), (1, (("places", "b"),)))
        self.assertEqual(read_book("places 1\na b\nb b"), (1, (("a", "b"), ("b", "b"))))
        self.assertEqual(read_book("\n".join(lines_of_ten())), (2, tuple((name, "nb") for name in TEN)))

    def test_read_back_the_same(self):
        chance = chances(5)
        for many in range(11):
            for places in range(1, 9):
                rows = [(some_text(chance, "xyz", 7) + name, some_text(chance, "nby", places)) for name in TEN[:many]]
                book = (places, tuple(rows))
                told = read_book(show_book(book))
                self.assertEqual(told, book)
                self.assertIsInstance(told, tuple)
                self.assertIsInstance(told[1], tuple)
                self.assertTrue(all(isinstance(row, tuple) for row in told[1]))
                self.assertIs(type(told[0]), int)


class Refused(unittest.TestCase):
    def assert_refused(self, text, row):
        said = text if isinstance(text, str) else None
        with self.assertRaises(NoText, msg=said) as caught:
            read_book(text)
        self.assertEqual(caught.exception.row, row, said)
        self.assertIs(type(caught.exception.row), int)

    def test_what_is_no_text(self):
        for thing in odd_things() + [0, 3, b"places 3", ["places 3"], ("places 3", "a nby"), (3, ())]:
            if not isinstance(thing, str):
                self.assert_refused(thing, 0)

    def test_the_line_of_places(self):
        for line in ["", " ", "places", "places ", "places  3", " places 3", "places 3 ", "places 0", "places 9", "places 10",
                     "places 03", "places +3", "places -3", "places 3.", "places three", "places n", "places3", "Places 3",
                     "place 3", "3", "places 3 3", "places\t3", "places 33", "places True", "places 3\r", "a nby", "places \u0663"]:
            self.assert_refused(line, 0)
            self.assert_refused(line + "\na nby", 0)
            self.assert_refused(line + "\nA nby\n", 0)

    def test_a_line_end_ahead(self):
        self.assert_refused("\nplaces 3", 0)
        self.assert_refused("\n", 0)

    def test_lines_of_rows(self):
        for line in ["", " ", "dee", "dee ", " dee", "nby", " nby", "dee  nby", " dee nby", "dee nby ", "dee nby nby", "dee\tnby",
                     "dee-nby", "Dee nby", "dee Nby", "dee nb", "dee nbyn", "dee nbo", "d1 nby", "deedeedee nby", "deenby",
                     "nby  dee", "dee nby\r", "places 3"]:
            self.assert_refused("places 3\n" + line, 1)
            self.assert_refused("places 3\nann nby\nbob bbb\n" + line, 3)
            self.assert_refused("places 3\nann nby\n" + line + "\nbob bbb", 2)
            self.assert_refused("places 3\nann nby\n" + line + "\nbob", 2)

    def test_line_ends_too_many(self):
        self.assert_refused("places 3\n", 1)
        self.assert_refused("places 3\nann nby\n", 2)
        self.assert_refused("places 3\nann nby\n\n", 2)
        self.assert_refused("places 3\n\nann nby", 1)
        self.assert_refused("\n".join(lines_of_ten()) + "\n", 11)

    def test_line_ends_missing(self):
        self.assert_refused("places 3 ann nby", 0)
        self.assert_refused("places 3ann nby", 0)
        self.assert_refused("places 3\nann nby bob nby", 1)

    def test_a_name_that_stands_ahead(self):
        self.assert_refused("places 3\nann nby\nann nby", 2)
        self.assert_refused("places 3\nann nby\nbob nby\nann bbb", 3)
        self.assert_refused("places 3\nann nby\nbob nby\nann bbb\nbob nby", 3)
        self.assert_refused("places 3\nann nby\nann nby\nbob", 2)
        self.assert_refused("places 3\nann\nann nby\nann nby", 1)

    def test_an_eleventh_row(self):
        lines = lines_of_ten()
        self.assert_refused("\n".join(lines + ["k nb"]), 11)
        self.assert_refused("\n".join(lines + ["k nb", "l nb"]), 11)
        self.assert_refused("\n".join(lines + ["k nbb", "l nb"]), 11)
        self.assert_refused("\n".join(lines + ["a nb"]), 11)
        self.assert_refused("\n".join(lines[:10] + ["a nb", "k nb"]), 10)
        self.assert_refused("\n".join(lines[:5] + ["e nbb"] + lines[6:] + ["k nb"]), 5)

    def test_a_refusal_changes_nothing(self):
        self.assert_refused("places 3\nann nby\nann nby", 2)
        self.assertEqual(read_book("places 3\nann nby"), (3, (("ann", "nby"),)))


if __name__ == "__main__":
    unittest.main()
