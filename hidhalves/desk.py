"""A desk that keeps rows, and answers rows of words with texts."""

from hidhalves.booktexts import show_book
from hidhalves.checker import holds
from hidhalves.deskwords import read_call
from hidhalves.fewest import fewest, halves_in
from hidhalves.fitnumbers import fit_at, many_fits, sure_at
from hidhalves.fits import fit_told
from hidhalves.keepers import Keeper
from hidhalves.papers import paper_of_many
from hidhalves.partings import many_partings
from hidhalves.settling import settled
from hidhalves.trees import tree_of

NOTHING = "none"
BARRED = "barred"


def add_row(keeper, words):
    name, row = words
    keeper.add(name, row)


def strike_row(keeper, words):
    keeper.strike(words[0])


def undo_deed(keeper, words):
    keeper.undo()


def tell_book(book, words):
    return show_book(book).replace("\n", "; ")


def written_fit(book, fit):
    """The half-rows of each row's parting."""
    if not fit:
        return NOTHING
    return ", ".join([f"{name} {one}/{other}" for (name, row), (one, other) in zip(book[1], fit)])


def tell_fit(book, words):
    word, fit = fit_told(book)
    return written_fit(book, fit) if word == "fit" else BARRED


def tell_many(book, words):
    return str(many_fits(book))


def tell_at(book, words):
    return written_fit(book, fit_at(book, int(words[0])))


def tell_sure(book, words):
    word = sure_at(book, int(words[0]), int(words[1]))
    return "no link" if word is None else word


def tell_fewest(book, words):
    many, choice = fewest(book)
    return str(many)


def tell_settled(book, words):
    names = tuple([name for name, row in book[1]])
    steps, left = settled(book, tuple(sorted(words)), names)
    return " ".join([name for name, half, other in steps]) if steps else NOTHING


def tell_partings(book, words):
    return str(many_partings(words[0]))


def tell_tree(book, words):
    word, fit = fit_told(book)
    if word != "fit":
        return BARRED
    if not fit:
        return NOTHING
    knots, ties = tree_of(halves_in(fit))
    return " ".join(knots)


def tell_paper(book, words):
    claim, paper = paper_of_many(book)
    return "holds" if holds(claim, paper) else "no"


DEEDS = {"add": add_row, "strike": strike_row, "undo": undo_deed}
ANSWERS = {
    "book": tell_book,
    "fit": tell_fit,
    "many": tell_many,
    "at": tell_at,
    "sure": tell_sure,
    "fewest": tell_fewest,
    "settle": tell_settled,
    "partings": tell_partings,
    "tree": tell_tree,
    "paper": tell_paper,
}


class Desk:
    """Keeps rows by a keeper of its own."""

    def __init__(self, places):
        self.keeper = Keeper(places)

    def say(self, row):
        """Does or answers what the row of words says, and tells a text."""
        first, words = read_call(row)
        if first in DEEDS:
            deed = DEEDS[first]
            deed(self.keeper, words)
            return "ok"
        answer = ANSWERS[first]
        return answer(self.keeper.book(), words)
