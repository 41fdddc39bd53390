"""The house's papers: tuples (claim, paper) that the checker takes."""

from hidhalves.crossed import crossed
from hidhalves.crossings import crossing_of
from hidhalves.evenodd import free_links, odd_links, with_twos
from hidhalves.fewest import fewest
from hidhalves.fits import fit_told, fit_with, solved
from hidhalves.likenesses import likenesses
from hidhalves.rules import rules_of
from hidhalves.trees import tree_of


def paper_of_halves(halves):
    """That the half-rows lie on a tree, or that they cross."""
    crossing = crossing_of(halves)
    if crossing is not None:
        return (("crossing", halves), crossing)
    return (("tree", halves), tree_of(halves))


def paper_of_book(book):
    """That the book has a fit, or that it is barred."""
    word, paper = fit_told(book)
    return ((word, book), paper)


def turns_of(links, sums):
    """For each free link the links that turn from even to odd, or back, when it alone of the free ones does."""
    start = odd_links(links, sums, 0)
    turns = []
    for weight in range(len(free_links(links, sums))):
        turned = odd_links(links, sums, 1 << weight)
        turns.append(tuple([link for link in sorted(links) if (link in start) != (link in turned)]))
    return tuple(turns)


def rules_of_sums(book, sums):
    """The rules of each sum, those sums ahead whose last link has the higher number, for no later one has it."""
    rules = rules_of(book)
    return tuple([with_twos(rules, sums[last][2]) for last in sorted(sums, reverse=True)])


def paper_of_many(book):
    """How many fits the book has."""
    links, sums, bar = solved(book)
    if bar is not None:
        return (("many", book, 0), bar)
    turns = turns_of(links, sums)
    fit = fit_with(book, links, sums, 0)
    return (("many", book, 1 << len(turns)), (fit, turns, rules_of_sums(book, sums)))


def paper_of_fewest(book):
    """How many unlike half-rows are the fewest that make the book's rows."""
    many, choice = fewest(book)
    return (("fewest", book, many), choice)


def paper_of_family(family):
    """With how many crossings the young have theirs, or at which place they never do."""
    told = crossed(family)
    if told[0] == "never":
        return (("never", family, told[1]), None)
    word, many, telling = told
    return (("crossed", family, many), telling)


def paper_of_two(book, other):
    """That the two books are alike, None where they aren't."""
    found = likenesses(book, other)
    if not found:
        return None
    return (("alike", book, other), found[0])
