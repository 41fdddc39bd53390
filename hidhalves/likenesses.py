"""Books alike: places renamed and turned, and all the ways to carry one book so to the rows of another."""

from hidhalves.errors import NoLikeness, NoRoom
from hidhalves.rows import are_places_of, is_tuple_of, rises

TURNED_SIGNS = {"n": "y", "b": "b", "y": "n"}
MOST_PLACES = 5


def is_likeness(thing, places):
    """Whether thing, of any kind, is a likeness (ORDER, TURNED) of so many places."""
    if not is_tuple_of(thing, 2):
        return False
    order, turned = thing
    if not are_places_of(order, places) or not are_places_of(turned, places):
        return False
    return sorted(order) == list(range(places)) and rises(turned)


def look_at_likeness(thing, places):
    """Refuses what is no likeness of so many places."""
    if not is_likeness(thing, places):
        raise NoLikeness("no likeness of these places")


def carried_signs(signs, likeness):
    """The signs carried by the likeness, or by the start of one, as far as its order goes."""
    order, turned = likeness
    told = []
    for place, source in enumerate(order):
        sign = signs[source]
        told.append(TURNED_SIGNS[sign] if place in turned else sign)
    return "".join(told)


def carried(thing, likeness):
    """The half-row or row to which the likeness carries this one."""
    look_at_likeness(likeness, len(thing))
    return carried_signs(thing, likeness)


def carried_book(book, likeness):
    """The book carried row by row, names as they are."""
    places, rows = book
    look_at_likeness(likeness, places)
    return (places, tuple([(name, carried_signs(row, likeness)) for name, row in rows]))


def longer_starts(start, places):
    """All starts of likenesses that go one place further than this one."""
    order, turned = start
    place = len(order)
    longer = []
    for source in range(places):
        if source not in order:
            longer.append((order + (source,), turned))
            longer.append((order + (source,), turned + (place,)))
    return longer


def likenesses(book, other):
    """All likenesses that carry the book to the rows of the other one, each as often, a rising list."""
    places, rows = book
    other_places, other_rows = other
    if places == other_places and places > MOST_PLACES:
        raise NoRoom("too many places to go through all likenesses")
    if places != other_places or len(rows) != len(other_rows):
        return []
    # What doesn't carry the rows' starts to those of the other rows is left at once, with all that begin so.
    found = [((), ())]
    for place in range(places):
        wanted = sorted([row[:place + 1] for name, row in other_rows])
        longer = [start for shorter in found for start in longer_starts(shorter, places)]
        found = [start for start in longer if sorted([carried_signs(row, start) for name, row in rows]) == wanted]
    return sorted(found)
