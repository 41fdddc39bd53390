"""The one tree on which half-rows lie that don't cross, and the ways on a tree."""

from hidhalves.crossings import crossing_of
from hidhalves.errors import NoKnot, NoTree
from hidhalves.halves import pair_at
from hidhalves.rows import HALF_SIGNS


def shows_told_pairs(halves, start):
    """Whether start's last sign stands beside each of its signs as in some told half-row."""
    last = len(start) - 1
    for place in range(last + 1):
        pair = pair_at(start, place, last)
        if not any(pair_at(half, place, last) == pair for half in halves):
            return False
    return True


def knots_for(halves):
    """The tree's knots, rising: just those half-rows of which each pair is shown by a told one.

    Where one or two ties are cut, a told knot is left in each part, for the others have three ties:
    so a knot shows no pair but told ones. And what shows only told pairs chooses a side of each tie,
    so that each two sides meet: then, on a tree, they all meet in one knot.
    """
    starts = [""]
    for place in range(len(halves[0])):
        longer = [start + sign for start in starts for sign in HALF_SIGNS]
        starts = [start for start in longer if shows_told_pairs(halves, start)]
    return starts


def unlike_places(one, other):
    return tuple([place for place in range(len(one)) if one[place] != other[place]])


def parted_at(halves, place):
    """A text of which told half-rows are like the first one at this place."""
    first = halves[0][place]
    return "".join(["y" if half[place] == first else "n" for half in halves])


def change_together(halves, places):
    """Whether all these places part the told half-rows in the same way, so that one tie has them."""
    return len({parted_at(halves, place) for place in places}) == 1


def ties_for(halves, knots):
    """The tree's ties, rising."""
    ties = []
    for at, one in enumerate(knots):
        for other in knots[at + 1:]:
            places = unlike_places(one, other)
            if change_together(halves, places):
                ties.append((one, other, places))
    return ties


def tree_of(halves):
    """The tree (KNOTS, TIES) on which these half-rows lie."""
    crossing = crossing_of(halves)
    if crossing is not None:
        raise NoTree(crossing)
    knots = knots_for(halves)
    return (tuple(knots), tuple(ties_for(halves, knots)))


def knots_beside(ties, knot):
    """The knots that one tie parts from this one."""
    beside = []
    for one, other, places in ties:
        if one == knot:
            beside.append(other)
        elif other == knot:
            beside.append(one)
    return beside


def steps_towards(ties, end):
    """For each knot the next one on its way to the end, None for the end itself."""
    steps = {end: None}
    reached = [end]
    while reached:
        knot = reached.pop()
        for beside in knots_beside(ties, knot):
            if beside not in steps:
                steps[beside] = knot
                reached.append(beside)
    return steps


def is_knot(tree, thing):
    return isinstance(thing, str) and thing in tree[0]


def way_on(tree, one, other):
    """The knots on the way from the one to the other, both among them, a list."""
    if not is_knot(tree, one) or not is_knot(tree, other):
        raise NoKnot("no knot of the tree")
    steps = steps_towards(tree[1], other)
    way = []
    knot = one
    while knot is not None:
        way.append(knot)
        knot = steps[knot]
    return way
