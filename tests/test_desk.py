import unittest

from hidhalves.booktexts import show_book
from hidhalves.desk import Desk
from hidhalves.errors import HalvesError, NoCall, NoFit, NoHalf, NoName, NoNumber, NoPlace, NoRoom, NoRow, NoUndo
from hidhalves.fewest import fewest
from hidhalves.fitnumbers import fit_at, many_fits, sure_at
from hidhalves.keepers import Keeper
from hidhalves.partings import many_partings
from hidhalves.rows import is_row
from hidhalves.settling import settled
from hidhalves.trees import tree_of
from tests.things import all_texts, chances, odd_things, some_books, some_text

NAMES = ["a", "b", "cy", "dee", "e", "f", "gus", "h", "i", "jo", "k"]
# All rows of words that change nothing, whatever the desk keeps.
QUESTIONS = ["book", "fit", "many", "at 0", "at 1", "at 127", "sure 0 1", "sure 1 2", "sure 0 7", "fewest", "settle nnn", "settle yyy nyn",
             "partings bbb", "tree", "paper"]


def desk_of(*rows):
    desk = Desk(len(rows[0]))
    for name, row in zip(NAMES, rows):
        desk.say(f"add {name} {row}")
    return desk


def desk_with(book):
    desk = Desk(book[0])
    for name, row in book[1]:
        desk.say(f"add {name} {row}")
    return desk


def said(desk, row):
    """The answer, or the class of the refusal."""
    try:
        return desk.say(row)
    except HalvesError as error:
        return type(error)


class Making(unittest.TestCase):
    def test_places(self):
        for places in range(1, 9):
            self.assertEqual(Desk(places).say("book"), f"places {places}")

    def test_no_room(self):
        for thing in odd_things() + [0, 9, 10, "3", b"3", [3], (3,), {3: 3}]:
            self.assertRaises(NoRoom, Desk, thing)

    def test_the_method_stands_in_the_class(self):
        self.assertIn("say", vars(Desk))


class Rows(unittest.TestCase):
    """Each row of the interface, with each form of its answer."""

    def test_deeds(self):
        desk = Desk(3)
        self.assertEqual(desk.say("add zed nby"), "ok")
        self.assertEqual(desk.say("add ann bbn"), "ok")
        self.assertEqual(desk.say("book"), "places 3; zed nby; ann bbn")
        self.assertEqual(desk.say("strike zed"), "ok")
        self.assertEqual(desk.say("book"), "places 3; ann bbn")
        self.assertEqual(desk.say("undo"), "ok")
        self.assertEqual(desk.say("book"), "places 3; zed nby; ann bbn")
        self.assertEqual(desk.say("undo"), "ok")
        self.assertEqual(desk.say("undo"), "ok")
        self.assertEqual(desk.say("book"), "places 3")

    def test_no_rows(self):
        desk = Desk(3)
        wanted = {"book": "places 3", "fit": "none", "many": "1", "at 0": "none", "sure 0 1": "no link", "fewest": "0", "settle nnn": "none",
                  "partings bbbb": "8", "tree": "none", "paper": "holds"}
        for row, answer in wanted.items():
            self.assertEqual(desk.say(row), answer)

    def test_a_fit(self):
        desk = desk_of("nyb")
        self.assertEqual(desk.say("fit"), "a nyn/nyy")
        self.assertEqual(desk.say("at 0"), "a nyn/nyy")
        desk.say("add zed nyn")
        self.assertEqual(desk.say("fit"), "a nyn/nyy, zed nyn/nyn")
        self.assertEqual(desk.say("at 0"), "a nyn/nyy, zed nyn/nyn")
        self.assertEqual(desk.say("tree"), "nyn nyy")

    def test_fits_by_number(self):
        desk = desk_of("bbn", "nbb")
        self.assertEqual(desk.say("many"), "4")
        self.assertEqual([desk.say(f"at {number}") for number in range(4)],
                         ["a nnn/yyn, b nnn/nyy", "a nnn/yyn, b nny/nyn", "a nyn/ynn, b nnn/nyy", "a nyn/ynn, b nny/nyn"])
        self.assertIn(desk.say("fit"), [desk.say(f"at {number}") for number in range(4)])
        for number in (4, 5, 10, 999999):
            self.assertRaises(NoNumber, desk.say, f"at {number}")

    def test_barred(self):
        desk = desk_of("nb", "yb")
        self.assertEqual([desk.say(row) for row in ("fit", "many", "tree", "paper", "fewest")], ["barred", "0", "barred", "holds", "4"])
        self.assertRaises(NoNumber, desk.say, "at 0")
        self.assertRaises(NoFit, desk.say, "sure 0 1")
        odd = desk_of("bbb", "nyn", "ynn", "nny")
        self.assertEqual([odd.say(row) for row in ("fit", "many", "tree", "paper")], ["barred", "0", "barred", "holds"])

    def test_sure(self):
        self.assertEqual(desk_of("bbn").say("sure 0 1"), "either")
        self.assertEqual(desk_of("bbn").say("sure 0 2"), "no link")
        self.assertEqual(desk_of("bbn", "nnn", "yyn").say("sure 0 1"), "even")
        self.assertEqual(desk_of("bbn", "nyn", "ynn").say("sure 0 1"), "odd")
        desk = desk_of("bbn")
        for row in ("sure 1 0", "sure 0 0", "sure 0 3", "sure 2 2", "sure 0 999999", "sure 999999 0"):
            self.assertRaises(NoPlace, desk.say, row)
        self.assertRaises(NoPlace, desk_of("nb", "yb").say, "sure 1 0")

    def test_fewest(self):
        self.assertEqual(desk_of("bbn", "nbb").say("fewest"), "3")
        self.assertEqual(desk_of("bbbbbbbb", "nbbbnnnn").say("fewest"), "3")
        self.assertRaises(NoRoom, desk_of("bbbbbbbb", "nbbbbnnn").say, "fewest")

    def test_settle(self):
        desk = desk_of("bbn", "nbb", "yyb")
        self.assertEqual(desk.say("settle nyy"), "b a cy")
        self.assertEqual(desk.say("settle yyy nyy"), "b a cy")
        self.assertEqual(desk.say("settle nyy yyy"), "b a cy")
        self.assertEqual(desk.say("settle yyy"), "cy a b")
        self.assertEqual(desk.say("settle yny"), "none")
        for row in ("settle ny", "settle nyyy", "settle nyy ny", "settle n nyy"):
            self.assertRaises(NoHalf, desk.say, row)

    def test_partings_of_a_row_of_any_length(self):
        desk = Desk(3)
        for places in range(1, 9):
            self.assertEqual(desk.say("partings " + "b" * places), str(2 ** (places - 1)))
            self.assertEqual(desk.say("partings " + "n" * places), "1")

    def test_tree(self):
        self.assertEqual(desk_of("nnb").say("tree"), "nnn nny")
        self.assertEqual(desk_of("nny", "nyn", "ynn").say("tree"), "nnn nny nyn ynn")
        self.assertEqual(desk_of("nny").say("tree"), "nny")

    def test_refused_as_the_functions_refuse(self):
        desk = desk_of("bbn", "nbb")
        for row, error in (("add a nnn", NoName), ("add a nn", NoName), ("add c nn", NoRow), ("add c nnnn", NoRow), ("strike c", NoName)):
            self.assertRaises(error, desk.say, row)
        with self.assertRaises(NoName) as caught:
            desk.say("add a nnn")
        self.assertEqual(caught.exception.name, "a")
        full = desk_of(*["nb"] * 10)
        self.assertRaises(NoRoom, full.say, "add k nb")
        self.assertRaises(NoRow, full.say, "add k nbb")
        self.assertRaises(NoName, full.say, "add a nbb")
        self.assertRaises(NoUndo, Desk(3).say, "undo")


class NoCalls(unittest.TestCase):
    def refuse(self, rows, desk=None):
        desk = desk or desk_of("bbn", "nbb")
        for row in rows:
            before = [said(desk, question) for question in QUESTIONS]
            with self.assertRaises(NoCall, msg=repr(row)):
                desk.say(row)
            self.assertEqual([said(desk, question) for question in QUESTIONS], before)

    def test_another_word(self):
        self.refuse(["", "hello", "Book", "BOOK", "books", "boo", "add", "ok", "none", "strike", "at", "sure", "settle", "partings", "undone",
                     "fits", "name", "holds", "no link", "barred", "link", "book_with", "say many", "0", "a", "bbn"])

    def test_another_number_of_words(self):
        self.refuse(["undo a", "undo undo", "book a", "fit 0", "many 1", "fewest 3", "tree tree", "paper many", "paper 0",
                     "add c", "add c bbb c", "add c bbb bbb", "strike a b", "strike", "at 0 1", "at", "sure 0", "sure 0 1 2", "sure", "partings",
                     "partings bb bb", "settle"])

    def test_blanks(self):
        for row in ("book", "undo", "fit", "add c bbb", "strike a", "at 0", "sure 0 1", "settle nyy", "settle nyy nnn", "partings bb", "paper"):
            self.refuse([" " + row, row + " ", "  " + row, row + "  ", row + "\n", "\n" + row, row + "\t", "\t" + row])
            if " " in row:
                self.refuse([row.replace(" ", "  "), row.replace(" ", "\t"), row.replace(" ", "\n"), row.replace(" ", " \n"), row.replace(" ", ""),
                             row.replace(" ", "_"), row.replace(" ", ", ")])
        self.refuse([" ", "  ", "\n", "\t"])

    def test_names(self):
        for word in ("A", "Ann", "a1", "1", "abcdefghi", "an-n", "a,", ";", "a;", "\"a\"", "a\n"):
            self.refuse([f"add {word} bbb", f"strike {word}"])

    def test_rows(self):
        for word in ("o", "bbo", "N", "BBN", "bbbbbbbbb", "0", "bb,", "nnx", "bbn\n"):
            self.refuse([f"add c {word}", f"partings {word}"])

    def test_half_rows(self):
        for word in ("b", "nbn", "N", "NYY", "nnnnnnnnn", "0", "ny,", "nyx", "nyy\n"):
            self.refuse([f"settle {word}", f"settle nyy {word}", f"settle {word} nyy"])

    def test_numbers(self):
        for word in ("00", "01", "007", "000000", "1000000", "0000001", "9999999", "-1", "+1", "-0", "1.0", "1e3", "0x1", "1_0", "one", "a", "1,",
                     "1\n"):
            self.refuse([f"at {word}", f"sure {word} 1", f"sure 0 {word}", f"sure {word} {word}"])

    def test_two_alike_half_rows(self):
        self.refuse(["settle nyy nyy", "settle nnn nyy nnn", "settle n n", "settle nyy nnn yyy nyy"])

    def test_what_is_no_text(self):
        desk = desk_of("bbn", "nbb")
        for thing in odd_things() + [b"book", ["book"], ("book",), {"book"}, {"book": "book"}, ["add", "c", "bbb"], ("settle", "nyy")]:
            self.assertRaises(NoCall, desk.say, thing)
        self.assertEqual(desk.say("book"), "places 3; a bbn; b nbb")

    def test_ahead_of_what_the_functions_refuse(self):
        self.refuse(["add a bbo", "add a bbbbbbbbb", "add A nn", "strike C", "at 0000", "at 1000000", "sure 1 00", "sure 9 09", "settle n n",
                     "settle nn bb", "settle nn nn"])
        self.refuse(["at 00", "sure 0 01", "settle n n", "add a x"], desk_of("nb", "yb"))
        self.refuse(["add k x", "add A nb", "add a b b"], desk_of(*["nb"] * 10))
        self.refuse(["undo x", "undo "], Desk(3))

    def test_written_rightly_but_refused_later(self):
        desk = desk_of("bbn", "nbb")
        for row, error in (("add a nnnnnnnn", NoName), ("add c n", NoRow), ("at 999999", NoNumber), ("sure 999999 999999", NoPlace),
                           ("settle n", NoHalf)):
            self.assertIs(said(desk, row), error)


class AfterRefusals(unittest.TestCase):
    def test_the_desk_answers_as_ahead(self):
        rows = ["add a nnn", "add c nn", "add C nnn", "strike zed", "at 4", "at 00", "sure 1 0", "settle nn", "settle nyy nyy", "hello", None, b"x"]
        desk = desk_of("bbn", "nbb")
        before = [said(desk, question) for question in QUESTIONS]
        for row in rows:
            self.assertTrue(issubclass(said(desk, row), HalvesError), row)
            self.assertEqual([said(desk, question) for question in QUESTIONS], before)
        # None of them was a deed: undo takes back the rows that were added.
        self.assertEqual(desk.say("undo"), "ok")
        self.assertEqual(desk.say("book"), "places 3; a bbn")
        self.assertEqual(desk.say("undo"), "ok")
        self.assertIs(said(desk, "undo"), NoUndo)

    def test_two_desks_do_not_touch_each_other(self):
        one, other = Desk(3), Desk(3)
        one.say("add a bbn")
        self.assertEqual(other.say("book"), "places 3")
        self.assertIs(said(other, "undo"), NoUndo)
        other.say("add a nbb")
        other.say("add b yyy")
        one.say("undo")
        self.assertEqual((one.say("book"), other.say("book")), ("places 3", "places 3; a nbb; b yyy"))


class AgainstTheFunctions(unittest.TestCase):
    def written(self, book, fit):
        return ", ".join(f"{name} {one}/{other}" for (name, row), (one, other) in zip(book[1], fit)) or "none"

    def look_at(self, desk, book):
        """All that the desk answers of the book it keeps, held against the functions."""
        many = many_fits(book)
        self.assertEqual(desk.say("book").replace("; ", "\n"), show_book(book))
        self.assertEqual(desk.say("many"), str(many))
        self.assertEqual(desk.say("paper"), "holds")
        fits = [fit_at(book, number) for number in range(many)]
        self.assertEqual([desk.say(f"at {number}") for number in range(many)], [self.written(book, fit) for fit in fits])
        self.assertIs(said(desk, f"at {many}"), NoNumber)
        self.assertIn(desk.say("fit"), [self.written(book, fit) for fit in fits] or ["barred"])
        knots = ["none"] if not book[1] else [" ".join(tree_of(sum(fit, ()))[0]) for fit in fits] or ["barred"]
        self.assertIn(desk.say("tree"), knots)
        self.look_at_places(desk, book)
        self.assertEqual(said(desk, "fewest"), self.told(lambda: str(fewest(book)[0])))

    def look_at_places(self, desk, book):
        for first in range(book[0] + 1):
            for second in range(book[0] + 1):
                self.assertEqual(said(desk, f"sure {first} {second}"), self.told(lambda: sure_at(book, first, second) or "no link"))

    def told(self, question):
        try:
            return question()
        except HalvesError as error:
            return type(error)

    def test_drawn_books(self):
        barred = 0
        for book in some_books(161, 120, 6, 6):
            desk = desk_with(book)
            self.look_at(desk, book)
            barred += desk.say("fit") == "barred"
        self.assertGreater(barred, 10)

    def test_settled_by_drawn_half_rows(self):
        chance = chances(162)
        answers = set()
        for book in some_books(163, 200, 5, 8):
            desk = desk_with(book)
            known = chance.sample(all_texts("ny", book[0]), chance.randint(1, min(3, 2 ** book[0])))
            steps, left = settled(book, tuple(sorted(known)), tuple(name for name, row in book[1]))
            answer = desk.say("settle " + " ".join(known))
            self.assertEqual(answer, " ".join(name for name, half, other in steps) or "none")
            answers.add(answer)
        self.assertGreater(len(answers), 40)

    def test_partings_of_drawn_rows(self):
        chance = chances(164)
        for _ in range(100):
            row = some_text(chance, "nbby", chance.randint(1, 8))
            self.assertTrue(is_row(row))
            self.assertEqual(Desk(chance.randint(1, 8)).say("partings " + row), str(many_partings(row)))

    def test_deeds_against_a_keeper(self):
        chance = chances(165)
        told = set()
        for _ in range(20):
            places = chance.randint(1, 4)
            desk, keeper = Desk(places), Keeper(places)
            for _ in range(80):
                told.add(self.same_deed(chance, desk, keeper))
                self.assertEqual(desk.say("book").replace("; ", "\n"), show_book(keeper.book()))
        self.assertEqual(told, {"ok", NoName, NoRow, NoRoom, NoUndo})

    def same_deed(self, chance, desk, keeper):
        """One deed, asked of both; what both told."""
        word, name, row = chance.choice(["add"] * 10 + ["strike", "undo"]), chance.choice(NAMES), some_text(chance, "nby", keeper.book()[0])
        if chance.random() < 0.1:
            row = row + "n"
        if word == "add":
            answer, wanted = said(desk, f"add {name} {row}"), self.told(lambda: keeper.add(name, row) or "ok")
        elif word == "strike":
            answer, wanted = said(desk, f"strike {name}"), self.told(lambda: keeper.strike(name) or "ok")
        else:
            answer, wanted = said(desk, "undo"), self.told(lambda: keeper.undo() or "ok")
        self.assertEqual(answer, wanted)
        return answer

    def test_answers_are_texts(self):
        for desk in (Desk(3), desk_of("bbn", "nbb"), desk_of("nbn", "ybn")):
            for row in QUESTIONS + ["add zed nnn", "strike zed", "undo"]:
                answer = said(desk, row)
                self.assertTrue(type(answer) is str or issubclass(answer, HalvesError))

    def test_very_many_choices(self):
        desk = desk_of(*["bbbbbbbb"] * 10)
        self.assertEqual([desk.say(row) for row in ("many", "paper", "fewest", "sure 0 7")], ["128", "holds", "2", "either"])
        self.assertEqual(desk.say("at 127"), ", ".join(f"{name} nyyyyyyy/ynnnnnnn" for name in NAMES[:10]))
        self.assertEqual(len(desk.say("tree").split(" ")), 2)


if __name__ == "__main__":
    unittest.main()
