"""Small tables that tell two plans apart."""

from evensieve.asks import types_of
from evensieve.basics import is_between, tuples_of
from evensieve.errors import TooLarge
from evensieve.kernels import kernel_of
from evensieve.measures import check_plans
from evensieve.reduced import reduced
from evensieve.same import kernels_of, kinds_of_both
from evensieve.sieveerrors import BadMost
from evensieve.states import kinds_of, many_states
from evensieve.tables import KEY, Table
from evensieve.together import chance_together, row_of, rows_of

MOST_WAYS = 200000
# In how many ways no, one, two, three or four rows can share entities of a kind.
SPLITS = (1, 1, 2, 5, 15)


def all_kept(columns, plans, at, table):
    """The chance that all rows of a table are kept by one of some plans."""
    check_ways(columns, plans, at, table)
    kernel, _ = reduced(kernel_of(columns, plans, at))
    return chance_together(kernel, rows_of(kernel, table, plans))


class Apart:
    """A table whose rows are all kept with unlike chances by two plans."""

    def __init__(self, table, chances):
        self.table = table
        self.chances = tuple(chances)

    def shows(self, columns, one, other):
        """Whether these are the chances, and are unlike."""
        plans = (one, other)
        check_plans(columns, plans)
        if not self.table.columns == columns:
            return False
        found = tuple([all_kept(columns, plans, at, self.table) for at in (0, 1)])
        return found == self.chances and found[0] != found[1]

    def __eq__(self, other):
        return isinstance(other, Apart) and self.table == other.table and self.chances == other.chances


def table_apart(columns, one, other, most):
    """An Apart with as few rows as can be, at most so many, or None."""
    if not is_between(most, 1, len(SPLITS) - 1):
        raise BadMost(most)
    plans = (one, other)
    check_plans(columns, plans)
    values = [row for _, row in types_of(columns, plans)]
    check_search(columns, plans, len(values), most)
    pair = kernels_of(columns, one, other)
    kinds = kinds_of_both(pair)
    for many in range(1, most + 1):
        for numbers in rising_rows(len(values), many):
            for parts in tuples_of([splits_of(many)] * len(kinds)):
                entities = dict(zip(kinds, parts))
                chances = tuple([chance_sharing(kernel, numbers, entities) for kernel in pair])
                if chances[0] != chances[1]:
                    return Apart(table_with(columns, [values[number] for number in numbers], entities), chances)
    return None


def check_ways(columns, plans, at, table):
    """Raise what there is to raise of plans and a table that is looked at by one of them."""
    check_plans(columns, plans)
    ways = 1
    for kind in kinds_of(plans[at]):
        for _ in table.entities(kind):
            ways *= many_states(plans, plans[at], kind)
    if ways > MOST_WAYS:
        raise TooLarge(ways)


def check_search(columns, plans, many_types, most):
    """Raise TooLarge, if there is too much to search for so many types and rows."""
    cells = many_types
    for kind in columns.kinds():
        cells *= max([many_states(plans, plan, kind) for plan in plans])
    ways = 1
    for _ in range(most):
        ways *= cells
    for _ in columns.kinds():
        ways *= SPLITS[most]
    if ways > MOST_WAYS:
        raise TooLarge(ways)


def rising_rows(end, many):
    """The list of all tuples of so many integers from 0 to less than an end, none less than the one ahead."""
    found = [()]
    for _ in range(many):
        found = [row + (number,) for row in found for number in range(row[-1] if row else 0, end)]
    return found


def splits_of(many):
    """The list of all ways in which so many rows can share entities, which are numbered as they come."""
    found = [()]
    for _ in range(many):
        found = [row + (number,) for row in found for number in range(len(set(row)) + 1)]
    return found


def chance_sharing(kernel, numbers, entities):
    """The chance that rows of some types are all kept, by a dict from kinds to the rows' entities."""
    rows = []
    for row, number in enumerate(numbers):
        rows.append(row_of(kernel, number, {kind: entities[kind][row] for kind in entities}))
    return chance_together(kernel, rows)


def table_with(columns, values, entities):
    """A table of rows with some values, by a dict from some kinds to the rows' entities."""
    alike = (0,) * len(values)
    rows = []
    for row, asked in enumerate(values):
        keys = tuple([entities.get(KEY + name, alike)[row] for name in columns.hashed])
        rows.append((entities.get("block", alike)[row], keys, asked, (1,) * len(columns.summed)))
    return Table(columns, rows)
