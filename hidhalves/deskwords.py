"""The rows of words that a desk answers, read and looked at."""

from hidhalves.errors import NoCall
from hidhalves.rows import is_half, is_name, is_row

FIGURES = "0123456789"
MOST_FIGURES = 6
# What stands behind each first word; behind settle are half-rows, as many as there are.
FORMS = {
    "add": ("name", "row"),
    "strike": ("name",),
    "undo": (),
    "book": (),
    "fit": (),
    "many": (),
    "at": ("number",),
    "sure": ("number", "number"),
    "fewest": (),
    "partings": ("row",),
    "tree": (),
    "paper": (),
}


def is_number(word):
    """Whether the word is a number of at most six figures, without noughts ahead."""
    if not 1 <= len(word) <= MOST_FIGURES or not all(figure in FIGURES for figure in word):
        return False
    return word == "0" or word[0] != "0"


def is_written_as(word, kind):
    """Whether the word is written as this kind of word is."""
    if kind == "name":
        return is_name(word)
    if kind == "row":
        return is_row(word)
    return is_number(word)


def are_written_as(words, kinds):
    """Whether there is one word of each kind."""
    return len(words) == len(kinds) and all(is_written_as(word, kind) for word, kind in zip(words, kinds))


def are_unlike_halves(words):
    """Whether these are one or more half-rows, no two alike."""
    return len(words) > 0 and all(is_half(word) for word in words) and len(set(words)) == len(words)


def is_call(first, words):
    """Whether a desk answers the first word with these words behind it."""
    if first == "settle":
        return are_unlike_halves(words)
    return first in FORMS and are_written_as(words, FORMS[first])


def read_call(row):
    """(FIRST, WORDS): the first word of the row, and a list of those behind it."""
    if not isinstance(row, str):
        raise NoCall("no text")
    # More than one blank, or blanks ahead or behind, leave an empty word, which none of them is.
    first, *words = row.split(" ")
    if not is_call(first, words):
        raise NoCall("no row of words that the desk answers")
    return (first, words)
