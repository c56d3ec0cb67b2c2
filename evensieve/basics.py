"""What the other files ask of values of any kind."""

LETTERS = "abcdefghijklmnopqrstuvwxyz"
RESERVED = ("row", "block", "hash", "not", "and", "or", "all", "none", "like")
FAR = 1000000
LONGEST_NAME = 8


def is_whole(value):
    """Whether a value is an integer, as which True and False do not count."""
    return isinstance(value, int) and not isinstance(value, bool)


def is_between(value, low, high):
    """Whether a value is an integer from low to high."""
    return is_whole(value) and low <= value <= high


def is_near(value):
    """Whether a value is an integer that may stand in a table or in an ask."""
    return is_between(value, -FAR, FAR)


def is_row(value):
    """Whether a value is a row of something, as arguments have it."""
    return isinstance(value, (list, tuple))


def is_name(value):
    """Whether a value is a name."""
    if not isinstance(value, str) or not 1 <= len(value) <= LONGEST_NAME:
        return False
    return value not in RESERVED and all([sign in LETTERS for sign in value])


def tuples_of(rows):
    """The list of all tuples with one item of each of some rows, in the order of their items."""
    found = [()]
    for row in rows:
        found = [start + (item,) for start in found for item in row]
    return found


def some_of(row):
    """The ascending list of all tuples of some items of an ascending row, in their order."""
    found = [()]
    for item in row:
        found = found + [some + (item,) for some in found]
    return sorted(found)
