"""Whether the rows that one plan keeps are among those that another one keeps."""

from evensieve.asks import asks_in, types_of
from evensieve.basics import tuples_of
from evensieve.draws import lengths, tests_in, thresholds
from evensieve.measures import check_plans
from evensieve.sieving import is_drawn, sieve
from evensieve.states import cells_by_tests, cells_where, limits_of
from evensieve.tables import are_values, table_sharing


class Within:
    """The rows of one plan are among those of the other one, whatever is drawn."""

    def shows(self, columns, one, other):
        """Whether it is so of two plans."""
        return self == judge_within(columns, one, other)

    def __bool__(self):
        return True

    def __eq__(self, other):
        if not isinstance(other, Within):
            return False
        return True


class Outside:
    """Values of a row and draws by which one plan keeps it and the other one does not."""

    def __init__(self, row, draws):
        self.row = tuple(row)
        self.draws = {test: draws[test] for test in draws}

    def shows(self, columns, one, other):
        """Whether it is so of two plans, and the draws are all of theirs and no others."""
        plans = (one, other)
        check_plans(columns, plans)
        tests = tests_in(plans)
        if not are_values(self.row, list(columns.asked.values())) or len(self.draws) != len(tests):
            return False
        if not all([is_drawn(self.draws.get(test)) for test in tests]):
            return False
        # The one row of this table has the number 0, and so have all its entities.
        table = table_sharing(columns, [self.row], ())
        draws = {test + (0,): self.draws[test] for test in tests}
        return sieve(table, one, draws) == (0,) and sieve(table, other, draws) == ()

    def __bool__(self):
        return False

    def __eq__(self, other):
        return isinstance(other, Outside) and self.row == other.row and self.draws == other.draws


def judge_within(columns, one, other):
    """A Within if one plan keeps no row that the other one does not keep, otherwise an Outside."""
    plans = (one, other)
    check_plans(columns, plans)
    asks = asks_in(plans)
    tests = tests_in(plans)
    cells = tuples_of([list(range(len(lengths(plans, test)))) for test in tests])
    every = (1 << len(cells)) - 1
    told = cells_by_tests({**limits_of(plans, one), **limits_of(plans, other)}, tests, cells)
    for answers, values in types_of(columns, plans):
        asked = {ask: every if answer else 0 for ask, answer in zip(asks, answers)}
        kept, others = [cells_where(plan, {**told, **asked}, every) for plan in plans]
        outside = kept & (every - others)
        if outside > 0:
            return Outside(values, draws_at(plans, tests, cells[first_bit(outside)]))
    return Within()


def first_bit(number):
    """The place of the lowest bit of a number above 0 that is 1."""
    place = 0
    while not (number >> place) & 1:
        place += 1
    return place


def draws_at(plans, tests, parts):
    """A dict from tests to the least fractions in some parts of their draws."""
    return {test: thresholds(plans, test)[part] for test, part in zip(tests, parts)}
