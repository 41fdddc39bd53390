"""Things of any kind, and small makers, that the tests share."""

import itertools
import random


class LikeAll:
    """Equal to whatever it is compared with, so that a mere == is caught."""

    def __eq__(self, other):
        return True

    def __hash__(self):
        return 1


def deep(kind, inmost, depth=20):
    thing = inmost
    for _ in range(depth):
        thing = kind(thing)
    return thing


def odd_things():
    """Things of many kinds: no name, half-row, row, book, parting, place, number from 0 on, knot."""
    return [
        None, True, False, -1, -2, 10 ** 30, -10 ** 30, 10 ** 5000, "", " ", "\n", "0", "1", "N", "Y", "n y",
        "nnnnnnnnn", "y\n", "\ny", " y", "y ", "n-y", b"", b"n", b"y", b"ab", [], (), {}, set(), frozenset(),
        ["n"], ("n",), ["n", "y"], {"n": "y"}, {"n"}, frozenset(["n"]), [None], (None,), (None, None),
        [3, ()], (3,), (3, (), ()), (True, ()), object(), LikeAll(), (LikeAll(), LikeAll()), [LikeAll()],
        len, odd_things, LikeAll, ValueError, ValueError("n"), range(3),
        deep(lambda inner: [inner], "n"), deep(lambda inner: (inner,), "n"), deep(lambda inner: (inner, inner), "n", 8),
        deep(lambda inner: {"n": inner}, "n"), deep(lambda inner: (3, inner), ()), deep(lambda inner: [inner, 1], None),
    ]


def all_texts(signs, length):
    return ["".join(text) for text in itertools.product(sorted(signs), repeat=length)]


def chances(seed):
    """Picks that are the same in each run."""
    return random.Random(seed)


def some_text(chance, signs, length):
    return "".join(chance.choice(signs) for _ in range(length))


def in_other_orders(things, most=24):
    return itertools.islice(itertools.permutations(things), most)


def some_book(chance, most_places, most_rows, signs="nby"):
    """A book of rows of these signs; one that stands there twice is taken more often."""
    places = chance.randint(1, most_places)
    names = chance.sample(["a", "b", "cy", "dee", "e", "f", "gus", "h", "i", "jo"], chance.randint(0, most_rows))
    return (places, tuple((name, some_text(chance, signs, places)) for name in names))


def some_books(seed, many, most_places, most_rows):
    """Books of several sorts: with few b and with many, with both marks and with one."""
    chance = chances(seed)
    return [some_book(chance, most_places, most_rows, chance.choice(["nby", "nbbby", "nbb", "bbby", "nnb", "nb"]))
            for _ in range(many)]


def bent(thing, worth):
    """All things that are as this tuple, but with another worth in one of its parts, however deep within."""
    told = []
    for at, part in enumerate(thing):
        inner = bent(part, worth) if isinstance(part, tuple) else []
        told += [thing[:at] + (other,) + thing[at + 1:] for other in inner + [worth]]
    return told


def listed(thing):
    """All things that are as this tuple, but with a list for one tuple, itself or one within."""
    told = [list(thing)]
    for at, part in enumerate(thing):
        if isinstance(part, tuple):
            told += [thing[:at] + (other,) + thing[at + 1:] for other in listed(part)]
    return told


def some_half(chance, row):
    """A half-row that fits the row."""
    return "".join(chance.choice("ny") if mark == "b" else mark for mark in row)


def some_family(chance, most_places, strange, signs="nby", least=1):
    """A family whose young ones have at each place signs of the old rows, but for a few strange marks."""
    places = chance.randint(least, most_places)
    one, other = some_text(chance, signs, places), some_text(chance, signs, places)
    young = []
    for _ in range(chance.randint(1, 3)):
        halves = some_half(chance, one), some_half(chance, other)
        marks = [x if x == y else "b" for x, y in zip(*halves)]
        young.append("".join(chance.choice("nby") if chance.random() < strange else mark for mark in marks))
    return (one, other, tuple(young))


def some_likeness(chance, places):
    """A likeness of so many places."""
    order = list(range(places))
    chance.shuffle(order)
    return (tuple(order), tuple(place for place in range(places) if chance.random() < 0.5))


def no_likenesses(places):
    """Things that are no likeness of so many places, each wrong in one way."""
    order = tuple(range(places))
    told = [
        (order + order[-1:], ()), (order[:-1], ()), (order[1:], ()), (order + (places,), ()), ((places,) + order[1:], ()),
        (order[:-1] + (-1,), ()), (order[:-1] + (10 ** 30,), ()), (order[:-1] + (None,), ()), (order[:-1] + (str(places - 1),), ()),
        (order[:-1] + (LikeAll(),), ()), (order[:-1] + ((places - 1,),), ()),
        (False,) * 2, ((False,) + order[1:], ()), (list(order), ()), (order, []), [order, ()], (order, [0]), (list(order), [0]),
        (order,), (order, (), ()), (), order, ((), order), (order, None), (None, ()), (order, 0), (order, "0"), ("0", ()),
        (order, (0, 0)), (order, (places,)), (order, (-1,)), (order, (False,)), (order, ("0",)), (order, (None,)),
        (order, (LikeAll(),)), (order, ((0,),)), (order, LikeAll()), (LikeAll(), ()), (order, {0: True}), (order, {0}),
        (order, range(1)), (range(places), ()), (order, b"\x00"), (bytes(order), ()),
    ]
    if places > 1:
        told += [(order[:-1] + order[:1], ()), ((0, True) + order[2:], ()), (order, (1, 0)), (order, (0, 1, 0)), (order, (0, True)),
                 (order, (0, 1, 1))]
    return told
