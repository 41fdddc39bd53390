"""All refusals of the program: each class stands straight under HalvesError."""


class HalvesError(ValueError):
    """Any refusal."""

    def __init__(self, why="refused"):
        ValueError.__init__(self, why)


class NoName(HalvesError):
    """What was handed in is no name, stands already, or doesn't stand in the book."""

    def __init__(self, name):
        HalvesError.__init__(self, "no such name")
        self.name = name


class NoRow(HalvesError):
    """What was handed in is no row of the book's places."""


class NoRoom(HalvesError):
    """There is no room for this."""


class NoText(HalvesError):
    """What was handed in is not the text of a book; row is the first row of it that isn't so."""

    def __init__(self, row):
        HalvesError.__init__(self, "no text of a book")
        self.row = row


class NoNumber(HalvesError):
    """Nothing has this number."""


class NoParting(HalvesError):
    """What was handed in is no parting of the row."""


class NoTree(HalvesError):
    """The half-rows cross, as the crossing shows."""

    def __init__(self, crossing):
        HalvesError.__init__(self, "the half-rows cross")
        self.crossing = crossing


class NoKnot(HalvesError):
    """What was handed in is no knot of the tree."""


class NoPlace(HalvesError):
    """What was handed in are no two rising places of the book."""


class NoRule(HalvesError):
    """What was handed in is no rule of the book."""


class NoFit(HalvesError):
    """There is no fit, as the bar shows, or, the bar being None, what was handed in is none."""

    def __init__(self, bar):
        HalvesError.__init__(self, "no fit")
        self.bar = bar


class NoHalf(HalvesError):
    """What was handed in are no known half-rows of the book."""


class NoOrder(HalvesError):
    """What was handed in is no order of the book's names."""


class NoUndo(HalvesError):
    """There is no deed to take back."""


class NoLikeness(HalvesError):
    """What was handed in is no likeness of these places."""


class NoCall(HalvesError):
    """What was handed in is no row of words that the desk answers."""
