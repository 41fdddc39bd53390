"""A book's links, where a row has b twice, and the rules for even and odd at them."""

from hidhalves.errors import NoRule
from hidhalves.rows import is_same
from hidhalves.seen import seen_at

# What a seen rule's BIT goes with: each two pairs leave the link no other choice.
EVEN_PAIRS = ("nn", "yy")
ODD_PAIRS = ("ny", "yn")


def both_places(row):
    """The places at which the row has b."""
    return [place for place, mark in enumerate(row) if mark == "b"]


def links_in(row):
    """The links of one row, rising."""
    both = both_places(row)
    return [(first, second) for first in both for second in both if first < second]


def links_of(book):
    """The links of the book, a rising list."""
    return sorted({link for name, row in book[1] for link in links_in(row)})


def seen_rules(book, link):
    """The rules of the pairs that are surely seen at this link."""
    first, second = link
    pairs = [pair for pair, name in seen_at(book, first, second)]
    rules = []
    for bit, needed in enumerate((EVEN_PAIRS, ODD_PAIRS)):
        if all(pair in pairs for pair in needed):
            rules.append(("seen", first, second, bit))
    return rules


def row_rules(name, row):
    """The rules of one row: one for each three b."""
    both = both_places(row)
    return [("row", name, first, second, third) for first, second in links_in(row) for third in both if second < third]


def rules_of(book):
    """The rules of the book, a rising list."""
    rules = [rule for name, row in book[1] for rule in row_rules(name, row)]
    for link in links_of(book):
        rules += seen_rules(book, link)
    return sorted(rules)


def said_by(rule):
    """What a rule that stands in some book says: (LINKS, BIT)."""
    if rule[0] == "seen":
        word, first, second, bit = rule
        return (((first, second),), bit)
    word, name, first, second, third = rule
    return (((first, second), (first, third), (second, third)), 0)


def rule_says(book, rule):
    """What this rule of the book says: (LINKS, BIT), so many of the links being odd as BIT by twos."""
    for standing in rules_of(book):
        if is_same(rule, standing):
            return said_by(standing)
    raise NoRule("no rule of the book")
