"""Whether kept rows tell the number of unlike integers in a key column."""

from evensieve.asks import types_of
from evensieve.errors import BadColumns
from evensieve.fractions import ONE, ZERO, over, product_of, total
from evensieve.kernels import held_weights, kernel_of, means_at
from evensieve.laws import check_cost
from evensieve.measures import check_measures
from evensieve.plans import checked_plan
from evensieve.sums import expected_keys
from evensieve.tables import KEY, table_sharing


class KeysTold:
    """The factor by which the kept integers tell those that are there, and the states that are kept."""

    def __init__(self, factor, states):
        self.factor = factor
        self.states = tuple(states)

    def shows(self, columns, plan, name):
        """Whether just keys with these states are kept, and the factor is one divided by their chance."""
        return self == judge_keys(columns, plan, name)

    def __bool__(self):
        return True

    def __eq__(self, other):
        return isinstance(other, KeysTold) and self.factor == other.factor and self.states == other.states


class KeysAstray:
    """Two tables with one integer each that no factor tells."""

    def __init__(self, one, other):
        self.one = one
        self.other = other

    def shows(self, columns, plan, name):
        """Whether the tables have one integer each, with unlike means or none."""
        check_keys(columns, plan, name)
        tables = (self.one, self.other)
        if not all([table.columns == columns for table in tables]):
            return False
        for table in tables:
            check_cost(table, plan, len(table) + 1)
        if not all([len(table.entities(KEY + name)) == 1 for table in tables]):
            return False
        first, second = [expected_keys(table, plan, name) for table in tables]
        return first != second or first == ZERO

    def __bool__(self):
        return False

    def __eq__(self, other):
        return isinstance(other, KeysAstray) and self.one == other.one and self.other == other.other


def judge_keys(columns, plan, name):
    """A KeysTold if there is a factor, otherwise a KeysAstray."""
    check_keys(columns, plan, name)
    kernel = kernel_of(columns, (plan,), 0)
    held = tuple([kind for kind in kernel.kinds() if kind == KEY + name])
    weights = held_weights(kernel, held)
    rows = [means_at(kernel, number, held) for number in range(len(kernel.functions))]
    if all([row == rows[0] for row in rows]) and are_told(rows[0]):
        states = [state for state, chance in enumerate(rows[0]) if chance == ONE]
        return KeysTold(over(ONE, total([weights[state] for state in states])), states)
    values = [row for _, row in types_of(columns, (plan,))]
    tables = [table_sharing(columns, [values[number] for number in numbers], (KEY + name,))
              for numbers in unlike_rows(rows, weights)]
    return KeysAstray(tables[0], tables[1])


def check_keys(columns, plan, name):
    """Raise what there is to raise of columns, a plan and a key column."""
    checked_plan(columns, plan)
    if name not in columns.hashed:
        raise BadColumns(name)
    check_measures(columns, (plan,))


def are_told(chances):
    """Whether all chances are 0 or 1, and some are 1."""
    return ONE in chances and all([chance in (ZERO, ONE) for chance in chances])


def unlike_rows(rows, weights):
    """Two tuples of types of rows with one key whose means are unlike or both 0.

    A type whose chance is between 0 and 1 at some state is kept more often twice than
    once. Where there is none, and some type is kept at other states than the first one,
    both means are unlike, or that of the first one alone and of both together are.
    """
    for number, row in enumerate(rows):
        if not all([chance in (ZERO, ONE) for chance in row]):
            return ((number,), (number, number))
    for number, row in enumerate(rows):
        if row != rows[0] and mean_of(row, weights) == mean_of(rows[0], weights):
            return ((0,), (0, number))
        if row != rows[0]:
            return ((0,), (number,))
    return ((0,), (0,))


def mean_of(row, weights):
    """The mean of chances at states with some weights."""
    return total([product_of(pair) for pair in zip(row, weights)])
