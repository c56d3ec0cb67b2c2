"""The errors that Evensieve raises."""


class SieveError(ValueError):
    """What Evensieve refuses; the classes below tell what it is."""


class BadColumns(SieveError):
    """A part of some columns, or the name of one, is not as it must be."""

    # What is named as a column may be of any kind, so no message shows it.
    def __init__(self, part):
        SieveError.__init__(self, "a part or a name of columns is not as it must be")
        self.part = part


class BadTable(SieveError):
    """A row of a table is not as it must be; None where there is no row of rows."""

    def __init__(self, number):
        SieveError.__init__(self, f"wrong row of a table: {number}")
        self.number = number


class BadPlan(SieveError):
    """A part of a plan is no formula, lies too deep, or is one too many."""

    # The part may be of any kind and depth, so no message shows it.
    def __init__(self, part):
        SieveError.__init__(self, "a part of a plan is no formula that may stand there")
        self.part = part


class BadText(SieveError):
    """A text is no plan; line and column are counted from 1."""

    def __init__(self, line, column):
        SieveError.__init__(self, f"wrong text at line {line}, column {column}")
        self.line = line
        self.column = column


class BadLot(SieveError):
    """What should be a lot is no ascending tuple of numbers of rows."""

    def __init__(self, lot):
        SieveError.__init__(self, "a lot is an ascending tuple of numbers of rows")
        self.lot = lot


class BadDraws(SieveError):
    """Draws lack a number that is needed, or have none that could be drawn."""

    def __init__(self, key):
        SieveError.__init__(self, f"no number that can be drawn: {key}")
        self.key = key


class NeverKept(SieveError):
    """Rows that are asked for are never kept."""

    def __init__(self, answers):
        SieveError.__init__(self, "rows that are asked for are never kept")
        self.answers = answers


class TooLarge(SieveError):
    """There is too much to work out; the number tells how much."""

    # The number may have more figures than Python writes out, so no message shows it.
    def __init__(self, number):
        SieveError.__init__(self, "too much to work out")
        self.number = number
