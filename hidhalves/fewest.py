"""The fewest unlike half-rows that make all rows of a book."""

from hidhalves.errors import NoFit, NoRoom
from hidhalves.fitnumbers import many_with
from hidhalves.fits import fit_with, solved
from hidhalves.partings import many_partings, partings_of

MOST_CHOICES = 512


def halves_in(choice):
    """The unlike half-rows of the choice, a rising tuple."""
    return tuple(sorted({half for parting in choice for half in parting}))


def with_fewest(choices):
    """(MANY, CHOICE): one of these choices with the fewest unlike half-rows."""
    best = min(choices, key=lambda choice: len(halves_in(choice)))
    return (len(halves_in(best)), best)


def many_choices(rows):
    """How many choices of partings these rows have."""
    many = 1
    for row in rows:
        many *= many_partings(row)
    return many


def choices_of(rows):
    """All choices of partings of these rows."""
    choices = [()]
    for row in rows:
        choices = [choice + (parting,) for choice in choices for parting in partings_of(row)]
    return choices


def fewest(book):
    """(MANY, CHOICE): a choice with the fewest unlike half-rows."""
    # Alike rows that are parted alike need no half-rows more, so each is looked at once.
    unlike = sorted({row for name, row in book[1]})
    if many_choices(unlike) > MOST_CHOICES:
        raise NoRoom("too many choices of partings")
    many, best = with_fewest(choices_of(unlike))
    return (many, tuple([best[unlike.index(row)] for name, row in book[1]]))


def fewest_fit(book):
    """(MANY, FIT): a fit with the fewest unlike half-rows."""
    links, sums, bar = solved(book)
    if bar is not None:
        raise NoFit(bar)
    return with_fewest([fit_with(book, links, sums, number) for number in range(many_with(links, sums, bar))])
