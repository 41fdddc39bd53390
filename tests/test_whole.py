"""Point 3 over the whole program: what its parts tell, held against each other."""

import unittest

from hidhalves.booktexts import read_book, show_book
from hidhalves.checker import holds
from hidhalves.crossed import crossed
from hidhalves.crossings import crossing_of
from hidhalves.desk import Desk
from hidhalves.errors import NoFit, NoRoom
from hidhalves.families import whole_tellings
from hidhalves.fewest import fewest, fewest_fit, halves_in
from hidhalves.fitnumbers import fit_at, many_fits, number_of_fit, sure_at
from hidhalves.fits import fit_told, is_fit
from hidhalves.halves import row_by
from hidhalves.keepers import Keeper
from hidhalves.lacking import good_fills, marks_let
from hidhalves.likenesses import carried, carried_book, likenesses
from hidhalves.papers import paper_of_book, paper_of_family, paper_of_fewest, paper_of_many, paper_of_two
from hidhalves.partings import many_partings
from hidhalves.rules import links_of
from hidhalves.settling import settled
from hidhalves.trees import tree_of
from tests.things import chances, some_books, some_family, some_likeness, some_text


def order_of(book):
    return tuple(name for name, row in book[1])


def carried_choice(choice, likeness):
    """A choice of partings, carried half-row by half-row."""
    return tuple(tuple(sorted(carried(half, likeness) for half in parting)) for parting in choice)


class Books(unittest.TestCase):
    def test_a_fit_or_a_bar(self):
        words = []
        for book in some_books(171, 200, 7, 8):
            word, paper = fit_told(book)
            words.append(word)
            many = many_fits(book)
            self.assertEqual(word == "fit", many > 0)
            self.assertEqual(good_fills(book), [book] if many else [])
            self.assertEqual(marks_let(book), [])
            self.assertIs(holds((word, book), paper), True)
            self.assertEqual(paper_of_book(book)[0][0], word)
            self.assertEqual(paper_of_many(book)[0][2], many)
            if many:
                self.look_at_fits(book, many)
            else:
                self.look_at_bar(book)
        self.assertGreater(min(words.count("fit"), words.count("barred")), 40)

    def look_at_fits(self, book, many):
        fits = [fit_at(book, number) for number in range(many)]
        self.assertEqual(fits, sorted(set(fits)))
        self.assertIn(fit_told(book)[1], fits)
        for number, fit in enumerate(fits):
            self.assertIs(holds(("fit", book), fit), True)
            self.assertEqual(number_of_fit(book, fit), number)
            self.assertEqual([row_by(*parting) for parting in fit], [row for name, row in book[1]])
            if fit:
                halves = sum(fit, ())
                self.assertIsNone(crossing_of(halves))
                self.assertIs(holds(("tree", halves), tree_of(halves)), True)
        self.assertEqual(fewest_fit(book)[0], min(len(halves_in(fit)) for fit in fits))
        self.look_at_links(book, fits)

    def look_at_links(self, book, fits):
        for first, second in links_of(book):
            odd = {one[first] != one[second] for fit in fits for (name, row), (one, other) in zip(book[1], fit)
                   if row[first] == row[second] == "b"}
            self.assertEqual(sure_at(book, first, second), "either" if len(odd) == 2 else "odd" if True in odd else "even")

    def look_at_bar(self, book):
        for ask in (fewest_fit, lambda barred: sure_at(barred, 0, 1)):
            with self.assertRaises(NoFit) as caught:
                ask(book)
            self.assertIs(holds(("barred", book), caught.exception.bar), True)
            self.assertIs(holds(("many", book, 0), caught.exception.bar), True)

    def test_no_fit_has_fewer_half_rows_than_are_told(self):
        looked_at = 0
        for book in some_books(172, 150, 6, 6):
            try:
                many, choice = fewest(book)
            except NoRoom:
                self.assertRaises(NoRoom, paper_of_fewest, book)
                continue
            looked_at += 1
            self.assertIs(holds(("fewest", book, many), choice), True)
            self.assertEqual(len(halves_in(choice)), many)
            for number in range(many_fits(book)):
                fit = fit_at(book, number)
                self.assertGreaterEqual(len(halves_in(fit)), many)
                self.assertIs(holds(("fewest", book, many), fit), len(halves_in(fit)) == many)
        self.assertGreater(looked_at, 80)

    def test_what_half_rows_of_a_fit_settle(self):
        for book in some_books(173, 100, 6, 6):
            if many_fits(book):
                fit = fit_told(book)[1]
                steps, left = settled(book, halves_in(fit), order_of(book))
                self.assertEqual(left, [])
                self.assertEqual(sorted(name for name, half, other in steps), sorted(order_of(book)))


class Families(unittest.TestCase):
    def test_whole_and_crossed_tellings_and_papers(self):
        chance = chances(174)
        words = []
        for _ in range(150):
            family = some_family(chance, 5, 0.05, "nbby")
            told = crossed(family)
            words.append(told[0])
            claim, paper = paper_of_family(family)
            self.assertEqual(claim, (told[0], family, told[1]))
            self.assertIs(holds(claim, paper), True)
            whole = whole_tellings(family)
            self.assertEqual(whole != [], told[:2] == ("crossed", 0))
            for telling in whole[:10]:
                self.assertIs(holds(("crossed", family, 0), self.by_ways(telling)), True)
        self.assertGreater(min(words.count("crossed"), words.count("never")), 10)

    def by_ways(self, telling):
        """A whole telling written as a crossed one: each way keeps to one half-row."""
        one, other, given = telling
        ways = tuple((str(one.index(half)) * len(half), str(other.index(beside)) * len(half)) for half, beside in given)
        return (one, other, ways)

    def test_a_carried_family(self):
        """A likeness that keeps the places in their order, or turns it about, keeps the crossings."""
        chance = chances(175)
        for _ in range(60):
            family = some_family(chance, 6, 0.03, "nbby")
            places = len(family[0])
            turned = some_likeness(chance, places)[1]
            for order in (tuple(range(places)), tuple(reversed(range(places)))):
                one, other, young = family
                new = (carried(one, (order, turned)), carried(other, (order, turned)), tuple(carried(row, (order, turned)) for row in young))
                if crossed(family)[0] == "crossed":
                    self.assertEqual(crossed(new)[:2], crossed(family)[:2])
                else:
                    self.assertEqual(crossed(new)[0], "never")


class AsTheyCome(unittest.TestCase):
    """What is told of rows kept as they come is what is told of them put down at once."""

    def test_keeper_and_desk_and_book(self):
        for book in some_books(176, 120, 6, 7):
            places, rows = book
            keeper, desk = Keeper(places), Desk(places)
            numbers = []
            for at, (name, row) in enumerate(rows):
                keeper.add(name, row)
                self.assertEqual(desk.say(f"add {name} {row}"), "ok")
                numbers.append(many_fits((places, rows[:at + 1])))
                self.assertEqual(desk.say("many"), str(numbers[-1]))
                self.assertEqual(desk.say("paper"), "holds")
            self.assertEqual(keeper.book(), book)
            self.assertEqual(keeper.numbers(), numbers)
            self.assertEqual(read_book(desk.say("book").replace("; ", "\n")), book)
            barred = [name for name, many in zip(order_of(book), numbers) if many == 0]
            self.assertEqual(keeper.first_barred(), barred[0] if barred else None)
            self.assertEqual(desk.say("fit") == "barred", bool(barred))
            self.assertEqual(desk.say("tree") == "barred", bool(barred))

    def test_detours_leave_nothing_behind(self):
        chance = chances(177)
        for book in some_books(178, 60, 5, 6):
            keeper, desk, plain = Keeper(book[0]), Desk(book[0]), Desk(book[0])
            for name, row in book[1]:
                for told in (f"add zed {some_text(chance, 'nby', book[0])}", "strike zed", "undo", "undo", f"add {name} {row}"):
                    desk.say(told)
                keeper.add("zed", row)
                keeper.strike("zed")
                keeper.add(name, row)
                plain.say(f"add {name} {row}")
            self.assertEqual(keeper.book(), book)
            for question in ("book", "fit", "many", "at 0", "tree", "paper"):
                self.assertEqual(self.said(desk, question), self.said(plain, question))
            self.assertEqual(desk.say("book").replace("; ", "\n"), show_book(keeper.book()))

    def said(self, desk, row):
        try:
            return desk.say(row)
        except ValueError as error:
            return type(error)

    def test_partings(self):
        chance = chances(179)
        for _ in range(50):
            row = some_text(chance, "nbby", chance.randint(1, 8))
            desk = Desk(len(row))
            desk.say(f"add a {row}")
            self.assertEqual(desk.say("partings " + row), str(many_partings(row)))
            self.assertEqual(desk.say("many"), str(many_partings(row)))


class Carried(unittest.TestCase):
    """Books that are carried by renaming and turning places have the same answers, carried."""

    def carried_books(self, seed, many, places, rows):
        chance = chances(seed)
        for book in some_books(seed + 1, many, places, rows):
            likeness = some_likeness(chance, book[0])
            yield book, likeness, carried_book(book, likeness)

    def test_fits_and_trees(self):
        for book, likeness, other in self.carried_books(180, 120, 6, 6):
            fits = [fit_at(book, number) for number in range(many_fits(book))]
            self.assertEqual(sorted(carried_choice(fit, likeness) for fit in fits),
                             [fit_at(other, number) for number in range(many_fits(other))])
            for fit in fits[:4]:
                self.assertIs(is_fit(other, carried_choice(fit, likeness)), True)
                if fit:
                    knots, ties = tree_of(sum(fit, ()))
                    new_knots, new_ties = tree_of(sum(carried_choice(fit, likeness), ()))
                    self.assertEqual(tuple(sorted(carried(knot, likeness) for knot in knots)), new_knots)
                    self.assertEqual(len(ties), len(new_ties))

    def test_papers(self):
        for book, likeness, other in self.carried_books(182, 120, 8, 8):
            self.assertEqual(paper_of_book(other)[0][0], paper_of_book(book)[0][0])
            self.assertEqual(paper_of_many(other)[0][2], paper_of_many(book)[0][2])
            self.assertIs(holds(("alike", book, other), likeness), True)
            if paper_of_book(book)[0][0] == "fit":
                self.assertIs(holds(("fit", other), carried_choice(fit_told(book)[1], likeness)), True)

    def test_fewest(self):
        for book, likeness, other in self.carried_books(184, 120, 5, 5):
            try:
                many, choice = fewest(book)
            except NoRoom:
                self.assertRaises(NoRoom, fewest, other)
            else:
                self.assertEqual(fewest(other)[0], many)
                self.assertIs(holds(("fewest", other, many), carried_choice(choice, likeness)), True)

    def test_alike_books(self):
        for book, likeness, other in self.carried_books(186, 100, 5, 6):
            self.assertIn(likeness, likenesses(book, other))
            claim, paper = paper_of_two(book, other)
            self.assertIs(holds(claim, paper), True)
            for told in likenesses(book, other)[:20]:
                self.assertIs(holds(("alike", book, other), told), True)
                self.assertEqual(sorted(row for name, row in carried_book(book, told)[1]), sorted(row for name, row in other[1]))

    def test_desks(self):
        for book, likeness, other in self.carried_books(188, 80, 6, 6):
            desks = Desk(book[0]), Desk(book[0])
            for desk, kept in zip(desks, (book, other)):
                for name, row in kept[1]:
                    desk.say(f"add {name} {row}")
            for question in ("many", "paper"):
                self.assertEqual(desks[0].say(question), desks[1].say(question))
            self.assertEqual(desks[0].say("fit") == "barred", desks[1].say("fit") == "barred")


if __name__ == "__main__":
    unittest.main()
