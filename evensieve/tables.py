"""Columns, and tables that have them."""

from evensieve.basics import FAR, is_between, is_name, is_near, is_row
from evensieve.errors import BadColumns, BadTable

MOST_HASHED = 2
MOST_ASKED = 4
MOST_SUMMED = 2
MOST_ROWS = 60
KEY = "key "


class Columns:
    """The key columns, the values that are asked, and the columns that are summed."""

    def __init__(self, hashed, asked, summed):
        part = wrong_part(hashed, asked, summed)
        if part is not None:
            raise BadColumns(part)
        self.hashed = tuple(hashed)
        self._asked = {name: asked[name] for name in sorted(asked)}
        self.summed = tuple(summed)

    @property
    def asked(self):
        """A dict from the names of values, ascending, to their kinds.

        It is a new one each time: tables and plans rest on these columns, which
        nobody should change by changing a dict.
        """
        return dict(self._asked)

    def kinds(self):
        """The ascending tuple of the kinds of entities."""
        return tuple(sorted(["block"] + [KEY + name for name in self.hashed]))

    def __eq__(self, other):
        return (isinstance(other, Columns) and self.hashed == other.hashed
                and self._asked == other._asked and self.summed == other.summed)


class Table:
    """Rows (block, keys, values, sums) of some columns."""

    def __init__(self, columns, rows):
        if not is_row(rows) or len(rows) > MOST_ROWS:
            raise BadTable(None)
        for number, row in enumerate(rows):
            if not is_table_row(columns, row):
                raise BadTable(number)
        self.columns = columns
        self.rows = tuple(rows)

    def entity(self, number, kind):
        """The entity of a kind to which a row belongs."""
        row = self.rows[number]
        if kind == "block":
            return row[0]
        return row[1][self.columns.hashed.index(kind[len(KEY):])]

    def entities(self, kind):
        """The ascending tuple of the entities of a kind that the rows have."""
        return tuple(sorted({self.entity(number, kind) for number in range(len(self.rows))}))

    def __len__(self):
        return len(self.rows)

    def __eq__(self, other):
        return isinstance(other, Table) and self.columns == other.columns and self.rows == other.rows


def table_sharing(columns, rows, shared):
    """A table of rows with some values, of which any two have the same entities of just some kinds.

    All numbers in its columns of sums are 1.
    """
    told = []
    for number, values in enumerate(rows):
        keys = tuple([0 if KEY + name in shared else number for name in columns.hashed])
        told.append((0 if "block" in shared else number, keys, values, (1,) * len(columns.summed)))
    return Table(columns, told)


def wrong_part(hashed, asked, summed):
    """The first part of columns that is not as it must be, or None."""
    if not are_names(hashed, MOST_HASHED):
        return "hashed"
    if not are_asked(asked):
        return "asked"
    if not are_names(summed, MOST_SUMMED):
        return "summed"
    names = list(hashed) + list(asked) + list(summed)
    if len(set(names)) < len(names):
        return "names"
    return None


def are_names(row, most):
    """Whether a value is a row of different names, not too many of them."""
    if not is_row(row) or len(row) > most or not all([is_name(name) for name in row]):
        return False
    return len(set(row)) == len(row)


def are_asked(asked):
    """Whether a value is a dict from names of values to their kinds."""
    if not isinstance(asked, dict) or len(asked) > MOST_ASKED:
        return False
    return all([is_name(name) and asked[name] in ("number", "text") for name in asked])


def is_table_row(columns, row):
    """Whether a value is a row of a table with some columns."""
    if not isinstance(row, tuple) or len(row) != 4:
        return False
    block, keys, values, sums = row
    return (is_between(block, 0, FAR) and are_numbers(keys, len(columns.hashed))
            and are_values(values, list(columns.asked.values()))
            and are_numbers(sums, len(columns.summed)))


def are_numbers(numbers, many):
    """Whether a value is a tuple of so many integers that a table may have."""
    if not isinstance(numbers, tuple) or len(numbers) != many:
        return False
    return all([is_near(number) for number in numbers])


def are_values(values, kinds):
    """Whether a value is a tuple of values of some kinds."""
    if not isinstance(values, tuple) or len(values) != len(kinds):
        return False
    return all([is_value(value, kind) for value, kind in zip(values, kinds)])


def is_value(value, kind):
    """Whether a value may stand in a column of values of a kind."""
    if kind == "number":
        return is_near(value)
    return isinstance(value, str)
