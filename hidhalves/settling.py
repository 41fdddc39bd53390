"""What known half-rows settle: rows of a book, one after the other."""

from hidhalves.errors import NoHalf, NoOrder, NoRoom
from hidhalves.halves import other_half
from hidhalves.rows import is_half, is_name, rises

MOST_ORDERED = 5


def are_known(book, thing):
    """Whether thing, of any kind, is a rising tuple of unlike half-rows of the book's places."""
    if not isinstance(thing, tuple) or not all(is_half(half) and len(half) == book[0] for half in thing):
        return False
    return rises(thing)


def names_in(book):
    """The names of the book, rising."""
    return sorted([name for name, row in book[1]])


def is_order(book, thing):
    """Whether thing, of any kind, is a tuple of all names of the book, each once."""
    if not isinstance(thing, tuple) or not all(is_name(name) for name in thing):
        return False
    return sorted(thing) == names_in(book)


def next_step(rows, known, waiting):
    """The step by the first of the waiting names that one of the known half-rows settles, else None."""
    for name in waiting:
        for half in known:
            other = other_half(rows[name], half)
            if other is not None:
                return (name, half, other)
    return None


def steps_by(book, known, order):
    """(STEPS, LEFT) by known half-rows and an order that were looked at."""
    rows = dict(book[1])
    standing = list(known)
    waiting = list(order)
    steps = []
    step = next_step(rows, standing, waiting)
    while step is not None:
        name, half, other = step
        steps.append(step)
        waiting.remove(name)
        standing = sorted(set(standing + [other]))
        step = next_step(rows, standing, waiting)
    return (steps, waiting)


def settled(book, known, order):
    """(STEPS, LEFT): a list of (NAME, HALF, OTHER), and one of the names that are never settled."""
    if not are_known(book, known):
        raise NoHalf("no known half-rows of the book's places")
    if not is_order(book, order):
        raise NoOrder("no order of the book's names")
    return steps_by(book, known, order)


def orders_of(names):
    """All orders of these rising names, rising."""
    if not names:
        return [()]
    return [(name,) + rest for at, name in enumerate(names) for rest in orders_of(names[:at] + names[at + 1:])]


def best_order(book, known):
    """(MANY, ORDER): the least order by which most rows are settled, and how many these are."""
    if not are_known(book, known):
        raise NoHalf("no known half-rows of the book's places")
    if len(book[1]) > MOST_ORDERED:
        raise NoRoom("too many rows to go through all orders")
    # Of several that are greatest the first is taken, and the orders rise.
    best = max(orders_of(names_in(book)), key=lambda order: len(steps_by(book, known, order)[0]))
    return (len(steps_by(book, known, best)[0]), best)
