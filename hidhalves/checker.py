"""Whether a paper shows what a claim says, both of any kind.

What makes the papers is not asked, lest a fault there be one here too: only rows, their partings, and a
book's rules are trusted.
"""

from hidhalves.halves import PAIRS, is_parting, lets, pair_at, row_by
from hidhalves.partings import many_partings, partings_of
from hidhalves.rows import HALF_SIGNS, are_places_of, are_two_texts, is_book, is_half, is_row, is_row_of, is_same
from hidhalves.rows import is_tuple_of, is_whole, rises
from hidhalves.rules import links_of, rules_of, said_by
from hidhalves.seen import shows_surely

LEAST_TIES = 3
MOST_CHOICES = 512
MOST_YOUNG = 3
# More than six texts of eight signs can have.
TOO_MANY_CROSSINGS = 100
EXCHANGED = {"n": "y", "b": "b", "y": "n"}


def are_halves_of(thing, places):
    """Whether thing is a tuple of half-rows of so many places."""
    return isinstance(thing, tuple) and all(is_half(half) and len(half) == places for half in thing)


def are_halves(thing):
    """Whether thing is a tuple of one or more half-rows of one length."""
    if not isinstance(thing, tuple) or not thing or not is_half(thing[0]):
        return False
    return are_halves_of(thing, len(thing[0]))


def are_rising_two(first, second, places):
    """Whether first and second are two rising places."""
    return are_places_of((first, second), places) and first < second


def is_text_in(thing, standing):
    """Whether thing is one of the standing texts."""
    return isinstance(thing, str) and thing in standing


def is_plain_in(thing, standing):
    """Whether thing is one of the standing tuples, which are of texts and whole numbers."""
    # A mere == or search would take True for 1, and whatever calls itself equal.
    if not isinstance(thing, tuple) or not all(isinstance(part, str) or is_whole(part) for part in thing):
        return False
    return thing in standing


def unlike_at(one, other):
    """The places at which two half-rows are unlike."""
    return tuple([place for place, mark in enumerate(row_by(one, other)) if mark == "b"])


def is_tie(thing, knots):
    """Whether thing is a tuple (ONE, OTHER, PLACES) of two of the knots and all places where they are unlike."""
    if not is_tuple_of(thing, 3):
        return False
    one, other, places = thing
    if not is_text_in(one, knots) or not is_text_in(other, knots):
        return False
    return one < other and is_same(places, unlike_at(one, other))


def are_changes_of(halves, ties):
    """Whether the places of the ties are just those at which the half-rows aren't all alike, each once."""
    changed = sorted([place for one, other, places in ties for place in places])
    return changed == [place for place in range(len(halves[0])) if len({half[place] for half in halves}) > 1]


def are_in_one_piece(knots, ties):
    """Whether the ties lead from the first knot to each other one."""
    reached = {knots[0]: True}
    # Each step reaches a further knot, or none is left that can be.
    for step in range(len(knots)):
        for one, other, places in ties:
            if one in reached or other in reached:
                reached[one] = True
                reached[other] = True
    return len(reached) == len(knots)


def many_ties(knot, ties):
    return sum([1 for one, other, places in ties if knot == one or knot == other])


def holds_tree(halves, paper):
    """Whether the paper is the tree of the half-rows."""
    if not are_halves(halves) or not is_tuple_of(paper, 2):
        return False
    knots, ties = paper
    if not are_halves_of(knots, len(halves[0])) or not rises(knots) or not all(half in knots for half in halves):
        return False
    if not isinstance(ties, tuple) or not all(is_tie(tie, knots) for tie in ties) or not rises(ties):
        return False
    # In one piece, and with one tie less than knots, there is just one way from each knot to each other one.
    if len(ties) != len(knots) - 1 or not are_in_one_piece(knots, ties) or not are_changes_of(halves, ties):
        return False
    return all(knot in halves or many_ties(knot, ties) >= LEAST_TIES for knot in knots)


def holds_crossing(halves, paper):
    """Whether the paper is (I, J, FOUR), four of the half-rows that show all pairs there."""
    if not are_halves(halves) or not is_tuple_of(paper, 3):
        return False
    first, second, four = paper
    if not are_rising_two(first, second, len(halves[0])) or not is_tuple_of(four, len(PAIRS)):
        return False
    return all(is_text_in(half, halves) and pair_at(half, first, second) == pair for half, pair in zip(four, PAIRS))


def is_choice(thing, book):
    """Whether thing is a tuple of partings, one of each row, in the book's order."""
    rows = book[1]
    return is_tuple_of(thing, len(rows)) and all(is_parting(row, part) for (name, row), part in zip(rows, thing))


def halves_of(choice):
    """The half-rows of a choice of partings, unlike ones."""
    return sorted({half for parting in choice for half in parting})


def cross(halves, places):
    """Whether the half-rows show all pairs at some two places."""
    for second in range(places):
        for first in range(second):
            if len({pair_at(half, first, second) for half in halves}) == len(PAIRS):
                return True
    return False


def holds_fit(book, paper):
    """Whether the paper is a fit of the book."""
    return is_book(book) and is_choice(paper, book) and not cross(halves_of(paper), book[0])


def is_four(bar, book):
    """Whether bar is ("four", I, J, NAMES), rows of the book that surely show all pairs there."""
    if not is_tuple_of(bar, 4) or not is_same(bar[0], "four"):
        return False
    word, first, second, names = bar
    if not are_rising_two(first, second, book[0]) or not is_tuple_of(names, len(PAIRS)):
        return False
    rows = dict(book[1])
    if not all(is_text_in(name, rows) for name in names):
        return False
    return all(shows_surely(rows[name], first, second, pair) for name, pair in zip(names, PAIRS))


def are_rising_of(thing, standing):
    """Whether thing is a rising tuple of some of the standing tuples."""
    return isinstance(thing, tuple) and all(is_plain_in(part, standing) for part in thing) and rises(thing)


def are_rules_of(thing, book):
    """Whether thing is a rising tuple of rules of the book."""
    return are_rising_of(thing, {rule: True for rule in rules_of(book)})


def odd_links_in(rules):
    """The links that stand in these rules an odd number of times."""
    links = [link for rule in rules for link in said_by(rule)[0]]
    return [link for link in sorted(set(links)) if links.count(link) & 1]


def is_odd(bar, book):
    """Whether bar is ("odd", RULES), rules of the book that can't be kept together."""
    if not is_tuple_of(bar, 2) or not is_same(bar[0], "odd") or not are_rules_of(bar[1], book):
        return False
    bits = [said_by(rule)[1] for rule in bar[1]]
    return not odd_links_in(bar[1]) and sum(bits) & 1 == 1


def holds_barred(book, paper):
    """Whether the paper is a bar of the book."""
    return is_book(book) and (is_four(paper, book) or is_odd(paper, book))


def keeps(turn, rule):
    """Whether the rule has an even number of the turn's links, so that what keeps it still does when they turn."""
    return len([link for link in said_by(rule)[0] if link in turn]) & 1 == 0


def has_each_its_own(groups):
    """Whether each group of links has one that no later group has: then none follows from others."""
    for at, group in enumerate(groups):
        later = {link: True for other in groups[at + 1:] for link in other}
        if all(link in later for link in group):
            return False
    return True


def is_count(many, turns, sums, book):
    """Whether turns and sums show that a book which has a fit has so many."""
    if not isinstance(turns, tuple) or not isinstance(sums, tuple):
        return False
    links = links_of(book)
    rules = {rule: True for rule in rules_of(book)}
    if len(turns) + len(sums) != len(links) or many != 1 << len(turns):
        return False
    if not all(are_rising_of(turn, links) for turn in turns) or not all(are_rising_of(used, rules) for used in sums):
        return False
    if not all(keeps(turn, rule) for turn in turns for rule in rules):
        return False
    return has_each_its_own(turns) and has_each_its_own([odd_links_in(used) for used in sums])


def holds_many(book, many, paper):
    """Whether the paper shows that the book has so many fits."""
    if not is_whole(many):
        return False
    if many == 0:
        return holds_barred(book, paper)
    return is_tuple_of(paper, 3) and holds_fit(book, paper[0]) and is_count(many, paper[1], paper[2], book)


def has_room(rows):
    """Whether these rows have so few choices of partings that all are gone through."""
    choices = 1
    for row in rows:
        choices *= many_partings(row)
    return choices <= MOST_CHOICES


def fewest_halves(rows):
    """The fewest unlike half-rows that make all these rows."""
    choices = [()]
    for row in rows:
        choices = [choice + (parting,) for choice in choices for parting in partings_of(row)]
    return min([len(halves_of(choice)) for choice in choices])


def holds_fewest(book, many, paper):
    """Whether the paper is a choice of the book with so many half-rows, and none has fewer."""
    if not is_book(book) or not is_whole(many) or not is_choice(paper, book) or len(halves_of(paper)) != many:
        return False
    # Alike rows, parted alike, need no half-rows more.
    unlike = sorted({row for name, row in book[1]})
    return has_room(unlike) and fewest_halves(unlike) == many


def is_old_and_young(thing):
    """Whether thing is a family."""
    if not is_tuple_of(thing, 3) or not is_row(thing[0]) or not isinstance(thing[2], tuple):
        return False
    one, other, young = thing
    return 1 <= len(young) <= MOST_YOUNG and all(is_row_of(row, len(one)) for row in (other,) + young)


def is_parting_either_way(row, thing):
    """Whether thing is a parting of the row, or is one when exchanged."""
    return is_tuple_of(thing, 2) and (is_parting(row, thing) or is_parting(row, thing[::-1]))


def is_way(thing, places):
    """Whether thing is a tuple (U, V) of texts of 0 and 1, of so many places."""
    if not are_two_texts(thing) or len(thing[0]) != places or len(thing[1]) != places:
        return False
    return all(sign in "01" for sign in thing[0] + thing[1])


def row_given(halves, others, way):
    """The row that is parted by the half-rows' signs to which the way leads."""
    one = "".join([halves[int(number)][place] for place, number in enumerate(way[0])])
    other = "".join([others[int(number)][place] for place, number in enumerate(way[1])])
    return row_by(one, other)


def is_telling(thing, family):
    """Whether thing is a crossed telling of the family."""
    one, other, young = family
    if not is_tuple_of(thing, 3) or not is_tuple_of(thing[2], len(young)):
        return False
    halves, others, ways = thing
    if not is_parting_either_way(one, halves) or not is_parting_either_way(other, others):
        return False
    return all(is_way(way, len(one)) and row_given(halves, others, way) == row for way, row in zip(ways, young))


def crossings_in(ways):
    """How many signs of all the ways' texts are unlike the one ahead."""
    return sum([1 for way in ways for text in way for sign, after in zip(text, text[1:]) if sign != after])


def either_way(mark):
    """The two signs of half-rows that part the mark, in either order."""
    return [signs for one, other in partings_of(mark) for signs in ((one, other), (other, one))]


def marks_by(halves, others, numbers, many):
    """The marks that so many young ones have by signs of the old rows and the numbers of these, kept by twos."""
    return "".join([row_by(halves[numbers >> 2 * at & 1], others[numbers >> 2 * at + 1 & 1]) for at in range(many)])


def are_let(family, place):
    """For all numbers, kept by twos, whether some signs at the place give by these all young ones theirs."""
    one, other, young = family
    marks = "".join([row[place] for row in young])
    signs = [(halves, others) for halves in either_way(one[place]) for others in either_way(other[place])]
    return [any([marks_by(halves, others, numbers, len(young)) == marks for halves, others in signs])
            for numbers in range(1 << 2 * len(young))]


def fewest_crossings(family):
    """The fewest crossings of a family's tellings, found for all numbers at one place after the other."""
    one, other, young = family
    fewest = [0] * (1 << 2 * len(young))
    for place in range(len(one)):
        for at in range(2 * len(young)):
            fewest = [min(many, fewest[numbers ^ 1 << at] + 1) for numbers, many in enumerate(fewest)]
        fewest = [many if let else TOO_MANY_CROSSINGS for many, let in zip(fewest, are_let(family, place))]
    return min(fewest)


def holds_crossed(family, many, paper):
    """Whether the paper is a telling of the family with so many crossings, and none has fewer."""
    if not is_old_and_young(family) or not is_whole(many) or not is_telling(paper, family):
        return False
    return crossings_in(paper[2]) == many and fewest_crossings(family) == many


def can_give(one, other, mark):
    """Whether signs of two old rows with these marks can part a young one's mark."""
    signs = [sign for sign in HALF_SIGNS if lets(one, sign)]
    others = [sign for sign in HALF_SIGNS if lets(other, sign)]
    return any(row_by(sign, beside) == mark for sign in signs for beside in others)


def holds_never(family, place, paper):
    """Whether the place is the first at which some young one can't have its mark; no paper is needed."""
    if not is_old_and_young(family) or not is_whole(place) or paper is not None:
        return False
    one, other, young = family
    never = [at for at in range(len(one)) if not all(can_give(one[at], other[at], row[at]) for row in young)]
    return never[:1] == [place]


def carried_row(row, order, turned):
    """The row with the signs of these places, exchanged where they are turned."""
    signs = [row[place] for place in order]
    return "".join([EXCHANGED[sign] if place in turned else sign for place, sign in enumerate(signs)])


def holds_alike(book, other, paper):
    """Whether the paper is a likeness that carries the book to the rows of the other one."""
    if not is_book(book) or not is_book(other) or book[0] != other[0] or not is_tuple_of(paper, 2):
        return False
    order, turned = paper
    if not are_places_of(order, book[0]) or not are_places_of(turned, book[0]):
        return False
    if sorted(order) != list(range(book[0])) or not rises(turned):
        return False
    return sorted([carried_row(row, order, turned) for name, row in book[1]]) == sorted([row for name, row in other[1]])


SHORT_CLAIMS = {"tree": holds_tree, "crossing": holds_crossing, "fit": holds_fit, "barred": holds_barred}
LONG_CLAIMS = {"many": holds_many, "fewest": holds_fewest, "crossed": holds_crossed, "never": holds_never,
               "alike": holds_alike}


def holds(claim, paper):
    """Whether the claim is taken with this paper."""
    if not isinstance(claim, tuple) or not claim or not isinstance(claim[0], str):
        return False
    word = claim[0]
    if word in SHORT_CLAIMS and len(claim) == 2:
        look = SHORT_CLAIMS[word]
        return look(claim[1], paper)
    if word in LONG_CLAIMS and len(claim) == 3:
        look = LONG_CLAIMS[word]
        return look(claim[1], claim[2], paper)
    return False
