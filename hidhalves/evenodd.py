"""Even or odd at each link of a book: its rules added up by twos, so that no choice need be tried.

Some of the links are kept together as one whole number, written by twos: the figure at a link's
number, from 0, is 1 where the link is among them. Some of the rules are kept likewise.
"""

from hidhalves.rules import both_places, links_of, rules_of, said_by


def links_by_weight(book):
    """All links of the book, those ahead that weigh more in the order of fits.

    The lesser half-row of a parting has n at the row's first b, and at each later one y where it is odd
    beside the first. So fits are in the order of these links, row by row, and other links follow from them.
    """
    links = {}
    for name, row in book[1]:
        both = both_places(row)
        for place in both[1:]:
            links[(both[0], place)] = True
    for link in links_of(book):
        links[link] = True
    return list(links)


def twos_of(links, chosen):
    """The chosen ones of these links as one number."""
    twos = 0
    for link in chosen:
        twos |= 1 << links.index(link)
    return twos


def with_twos(things, twos):
    """Those of the things whose numbers are among the twos, a tuple."""
    return tuple([thing for at, thing in enumerate(things) if twos >> at & 1])


def odd_many(twos):
    """1 where an odd number of things is among the twos, else 0."""
    odd = 0
    left = twos
    while left:
        left &= left - 1
        odd ^= 1
    return odd


def lessened(sums, links, bit, rules):
    """The sum (LINKS, BIT, RULES) with others added to it until none of them ends as it does."""
    while links.bit_length() in sums:
        more_links, more_bit, more_rules = sums[links.bit_length()]
        links ^= more_links
        bit ^= more_bit
        rules ^= more_rules
    return (links, bit, rules)


def added_up(book, links):
    """(SUMS, ODD): sums of the book's rules, and the rules of an odd bar, None where there is none.

    SUMS has under a link's number, from 1, the sum (LINKS, BIT, RULES) in which this link is the last.
    Only rules that leave a link make a sum. So no choice of these rules has each link an even number of
    times, and for a further rule there is at most one choice that together with it has: no part of it
    would do, and a bar that is found so is least.
    """
    rules = rules_of(book)
    sums = {}
    for at, rule in enumerate(rules):
        said, said_bit = said_by(rule)
        left, bit, used = lessened(sums, twos_of(links, said), said_bit, 1 << at)
        if left:
            sums[left.bit_length()] = (left, bit, used)
        elif bit:
            return (sums, with_twos(rules, used))
    return (sums, None)


def free_links(links, sums):
    """The numbers, from 0, of the links that those ahead of them leave free."""
    return [at for at in range(len(links)) if at + 1 not in sums]


def odd_links(links, sums, number):
    """The links that are odd, a tuple, in the choice of even and odd with this number that keeps the sums."""
    odd = 0
    for weight, at in enumerate(reversed(free_links(links, sums))):
        odd |= (number >> weight & 1) << at
    for at in range(len(links)):
        if at + 1 in sums:
            # All other links of this sum stand ahead, so they are settled by now.
            together, bit, used = sums[at + 1]
            odd |= (bit ^ odd_many(together & odd)) << at
    return with_twos(links, odd)
