"""Sums over the rows that are asked for, told by the rows that are kept."""

from evensieve.asks import answers_of, asks_in, types_of
from evensieve.errors import BadColumns, BadPlan
from evensieve.fractions import ONE, ZERO, minus, over, times, total
from evensieve.kernels import chance_one, kernel_of
from evensieve.laws import chance_that, check_cost, checked_lot
from evensieve.measures import check_measures
from evensieve.plans import TESTS, checked_plan, formulas_in, is_true
from evensieve.tables import KEY, are_values


def checked_where(columns, where):
    """The where itself, if it is a plan without tests for these columns."""
    checked_plan(columns, where)
    for formula in formulas_in([where]):
        if formula[0] in TESTS:
            raise BadPlan(formula)
    return where


def true_sum(table, where, name):
    """The sum of a column of sums over the rows that are asked for."""
    checked_where(table.columns, where)
    numbers = numbers_of(table, name)
    return sum([numbers[row] for row in asked_rows(table, (where,))])


class Weights:
    """By which weights kept rows tell the true sum in the mean."""

    def __init__(self, weights):
        self.weights = {answers: weights[answers] for answers in weights}

    def shows(self, columns, plan, where):
        """Whether these are the weights, by the answers of all types."""
        return self == judge_sum(columns, plan, where)

    def __bool__(self):
        return True

    def __eq__(self, other):
        return isinstance(other, Weights) and self.weights == other.weights


class Unseen:
    """A type that is asked for and never kept, and values of such a row."""

    def __init__(self, answers, row):
        self.answers = tuple(answers)
        self.row = tuple(row)

    def shows(self, columns, plan, where):
        """Whether the row has the answers, is asked for and never kept."""
        chances = asked_chances(columns, (plan, where), 0)
        if not are_values(self.row, list(columns.asked.values())):
            return False
        if answers_of(columns, asks_in((plan, where)), self.row) != self.answers:
            return False
        return chances.get(self.answers) == ZERO

    def __bool__(self):
        return False

    def __eq__(self, other):
        return isinstance(other, Unseen) and self.answers == other.answers and self.row == other.row


def judge_sum(columns, plan, where):
    """The Weights by which kept rows tell the sum, or an Unseen if there are none."""
    chances = asked_chances(columns, (plan, where), 0)
    weights = {}
    for answers, values in types_of(columns, (plan, where)):
        if chances.get(answers) == ZERO:
            return Unseen(answers, values)
        weights[answers] = over(ONE, chances[answers]) if answers in chances else ZERO
    return Weights(weights)


def estimate(table, plan, where, weights, kept, name):
    """The sum that a lot of kept rows tells by Weights that show."""
    check_asked(table.columns, (plan, where))
    checked_lot(table, kept)
    numbers = numbers_of(table, name)
    asks = asks_in((plan, where))
    rows = [(answers_of(table.columns, asks, table.rows[row][2]), numbers[row]) for row in kept]
    return total([times(weights.weights[answers], (number, 1)) for answers, number in rows])


def expected_keys(table, plan, name):
    """The mean number of unlike integers in a key column that the kept rows have."""
    check_cost(table, plan, len(table) + 1)
    lots = {}
    for row in range(len(table)):
        lots.setdefault(table.entity(row, KEY + name), []).append(row)
    return total([minus(ONE, chance_that(table, plan, (), tuple(lot))) for lot in lots.values()])


def check_asked(columns, plans):
    """Raise BadPlan or TooLarge of some plans, of which the last one is a where."""
    for plan in plans[:-1]:
        checked_plan(columns, plan)
    checked_where(columns, plans[-1])
    check_measures(columns, plans)


def asked_types(columns, plans):
    """A dict from the answers of the types for which the last plan, a where, holds to their numbers."""
    asks = asks_in(plans)
    types = types_of(columns, plans)
    return {answers: number for number, (answers, _) in enumerate(types)
            if is_true(plans[-1], dict(zip(asks, answers)))}


def asked_chances(columns, plans, at):
    """A dict from the answers of the types that are asked for to the chances by one of the plans.

    The last plan is a where.
    """
    check_asked(columns, plans)
    kernel = kernel_of(columns, plans, at)
    return {answers: chance_one(kernel, number) for answers, number in asked_types(columns, plans).items()}


def asked_rows(table, plans):
    """A dict from the numbers of the rows for which the last plan, a where, holds to their answers."""
    asks = asks_in(plans)
    told = [answers_of(table.columns, asks, row[2]) for row in table.rows]
    return {row: answers for row, answers in enumerate(told) if is_true(plans[-1], dict(zip(asks, answers)))}


def numbers_of(table, name):
    """The list of the numbers of all rows in a column of sums."""
    if name not in table.columns.summed:
        raise BadColumns(name)
    place = table.columns.summed.index(name)
    return [row[3][place] for row in table.rows]
