"""What the document's words say, found by plain trial, without the package's own ways."""

import itertools

from tests.things import all_texts

PAIRS = ("nn", "ny", "yn", "yy")


def partings_by_trial(row):
    """Straight from the words of point 6."""
    told = []
    for signs in itertools.product("ny", repeat=len(row)):
        one = "".join(signs)
        other = "".join({"n": "y", "y": "n"}[sign] if mark == "b" else sign for mark, sign in zip(row, one))
        if one <= other and all(mark == "b" or mark == sign for mark, sign in zip(row, one)):
            told.append((one, other))
    return told


def row_by_trial(one, other):
    """The row that two half-rows part."""
    return "".join(a if a == b else "b" for a, b in zip(one, other))


def seen_by_trial(book, i, j):
    """Straight from the words of point 9, by going through all partings."""
    told = []
    for pair in PAIRS:
        names = [name for name, row in book[1]
                 if all(pair in (one[i] + one[j], other[i] + other[j]) for one, other in partings_by_trial(row))]
        told += [(pair, name) for name in names[:1]]
    return tuple(told)


def links_by_trial(book):
    return [(i, j) for i, j in itertools.combinations(range(book[0]), 2)
            if any(row[i] == row[j] == "b" for name, row in book[1])]


def rules_by_trial(book):
    """Straight from the words of point 10: each rule, rising, with what it says."""
    rules = {}
    for i, j in links_by_trial(book):
        seen = dict(seen_by_trial(book, i, j))
        if "nn" in seen and "yy" in seen:
            rules[("seen", i, j, 0)] = (((i, j),), 0)
        if "ny" in seen and "yn" in seen:
            rules[("seen", i, j, 1)] = (((i, j),), 1)
    for name, row in book[1]:
        for i, j, k in itertools.combinations(range(book[0]), 3):
            if row[i] == row[j] == row[k] == "b":
                rules[("row", name, i, j, k)] = (((i, j), (i, k), (j, k)), 0)
    return {rule: rules[rule] for rule in sorted(rules)}


def cross(halves):
    """Whether half-rows of one length cross."""
    if not halves:
        return False
    return any({half[i] + half[j] for half in halves} == set(PAIRS)
               for i, j in itertools.combinations(range(len(halves[0])), 2))


def many_choices(book):
    many = 1
    for name, row in book[1]:
        many *= 2 ** max(0, row.count("b") - 1)
    return many


def choices_by_trial(book):
    """All choices of partings, rising."""
    return list(itertools.product(*[partings_by_trial(row) for name, row in book[1]]))


def halves_by_trial(choice):
    return tuple(sorted({half for parting in choice for half in parting}))


def fits_by_trial(book):
    """All fits, rising."""
    return [choice for choice in choices_by_trial(book) if not cross(halves_by_trial(choice))]


def is_odd_sum(rules, chosen):
    """Whether each link stands in the chosen rules an even number of times, the sum of bits being odd."""
    links = [link for rule in chosen for link in rules[rule][0]]
    return sum(rules[rule][1] for rule in chosen) % 2 == 1 and all(links.count(link) % 2 == 0 for link in links)


def wrong_with_bar(book, bar):
    """Why bar is no bar of the book as point 11 tells it, None where it is one."""
    if type(bar) is not tuple or not bar or bar[0] not in ("four", "odd"):
        return "no bar of either sort"
    if bar[0] == "four":
        return wrong_with_four(book, bar)
    return wrong_with_odd(book, bar)


def wrong_with_four(book, bar):
    word, i, j, names = bar
    if type(i) is not int or type(j) is not int or not 0 <= i < j < book[0]:
        return "no places"
    if type(names) is not tuple or len(names) != 4:
        return "no four names"
    rows = dict(book[1])
    for pair, name in zip(PAIRS, names):
        if pair not in dict(seen_by_trial((book[0], ((name, rows[name]),)), i, j)):
            return "a row doesn't show its pair surely"
    return None


def wrong_with_odd(book, bar):
    word, chosen = bar
    rules = rules_by_trial(book)
    if type(chosen) is not tuple or list(chosen) != sorted(set(chosen)):
        return "not rising"
    if not all(repr(rule) in map(repr, rules) for rule in chosen):
        return "no rules of the book"
    if not is_odd_sum(rules, chosen):
        return "no odd sum"
    if has_odd_part(rules, chosen):
        return "a part would do"
    return None


def has_odd_part(rules, chosen):
    """Whether a lesser part of the chosen rules has an odd sum; all parts are gone through where they are few."""
    if len(chosen) > 14:
        return any(solves_odd(rules, [rule for rule in chosen if rule != left]) for left in chosen)
    return any(is_odd_sum(rules, part) for many in range(len(chosen)) for part in itertools.combinations(chosen, many))


def solves_odd(rules, chosen):
    """Whether some of the chosen rules have an odd sum, found by putting links out one by one."""
    left = [(frozenset(rules[rule][0]), rules[rule][1]) for rule in chosen]
    while left:
        links, bit = left.pop()
        if not links:
            if bit:
                return True
            continue
        link = min(links)
        left = [(other ^ links, more ^ bit) if link in other else (other, more) for other, more in left]
    return False


def likenesses_of(places):
    """All likenesses of so many places, rising."""
    turned = sorted(some for many in range(places + 1) for some in itertools.combinations(range(places), many))
    return [(order, some) for order in itertools.permutations(range(places)) for some in turned]


def carried_by_trial(signs, likeness):
    """Straight from the words of point 20, sign by sign."""
    order, turned = likeness
    told = ""
    for place in range(len(signs)):
        sign = signs[order[place]]
        if place in turned:
            sign = {"n": "y", "y": "n", "b": "b"}[sign]
        told += sign
    return told


def carried_rows_by_trial(book, likeness):
    return tuple((name, carried_by_trial(row, likeness)) for name, row in book[1])


def are_carried_to(book, likeness, other):
    """Whether the likeness carries the book to rows that the other one has, each as often."""
    return sorted(row for name, row in carried_rows_by_trial(book, likeness)) == sorted(row for name, row in other[1])


def ordered_partings(row):
    """All tuples of two half-rows that part the row, in either order."""
    halves = all_texts("ny", len(row))
    return [(one, other) for one in halves for other in halves if row_by_trial(one, other) == row]


def crossings_in(text):
    return sum(sign != ahead for ahead, sign in zip(text, text[1:]))


def young_by(a, b, u, v):
    """The row that these ways make of A and B."""
    return "".join(row_by_trial(a[int(x)][place], b[int(y)][place]) for place, (x, y) in enumerate(zip(u, v)))


def fewest_by_trial(family):
    """The fewest crossings, by going through all A, B and ways; None where there is no telling."""
    one, other, young = family
    texts = all_texts("01", len(one))
    found = []
    for a, b in itertools.product(ordered_partings(one), ordered_partings(other)):
        made = {}
        for u, v in itertools.product(texts, repeat=2):
            row, many = young_by(a, b, u, v), crossings_in(u) + crossings_in(v)
            made[row] = min(many, made.get(row, many))
        if all(row in made for row in young):
            found.append(sum(made[row] for row in young))
    return min(found, default=None)


def never_by_trial(family):
    """The first place at which no signs give all young ones theirs, None where there is none."""
    one, other, young = family
    signs = {"n": "n", "y": "y", "b": "ny"}
    for place in range(len(one)):
        let = {row_by_trial(x, y) for x in signs[one[place]] for y in signs[other[place]]}
        if not {row[place] for row in young} <= let:
            return place
    return None


def counts_by_trial(book, many, paper):
    """Whether (FIT, TURNS, SUMS) shows that there are so many fits, clause by clause as point 21 reads."""
    fit, turns, sums = paper
    links, rules = links_by_trial(book), rules_by_trial(book)
    if fit not in fits_by_trial(book):
        return False
    if not all(list(turn) == sorted(set(turn)) and set(turn) <= set(links) for turn in turns):
        return False
    if any(len(set(said) & set(turn)) % 2 for said, bit in rules.values() for turn in turns):
        return False
    if not all(any(all(link not in later for later in turns[at + 1:]) for link in turn) for at, turn in enumerate(turns)):
        return False
    if not all(list(used) == sorted(set(used)) and set(used) <= set(rules) for used in sums):
        return False
    times = [[sum(link in rules[rule][0] for rule in used) % 2 for link in links] for used in sums]
    if not all(any(odd and not any(later[place] for later in times[at + 1:]) for place, odd in enumerate(row))
               for at, row in enumerate(times)):
        return False
    return len(turns) + len(sums) == len(links) and many == 2 ** len(turns)
