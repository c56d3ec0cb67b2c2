"""At which tables of a join the draws from common keys may stand, and where they are cheapest."""

from evensieve.basics import FAR, is_between, is_row, tuples_of
from evensieve.errors import TooLarge
from evensieve.fractions import is_less, plus, times, total
from evensieve.natural import joint_by_names
from evensieve.offers import reading
from evensieve.plans import checked_plan
from evensieve.sieveerrors import BadPrices

MOST_PUSHES = 64


def pushes(columns, plans):
    """The list of all lists of plans in which each movable draw stands at just one table."""
    return [push for _, push in placed_pushes(columns, plans)]


class Pushed:
    """The number of the cheapest push, and the costs of all."""

    def __init__(self, number, costs):
        self.number = number
        self.costs = tuple(costs)

    def shows(self, columns, plans, tables, prices):
        """Whether these are the costs, and the first of the least has the number."""
        return self == cheapest_push(columns, plans, tables, prices)

    def __eq__(self, other):
        return isinstance(other, Pushed) and self.number == other.number and self.costs == other.costs


def cheapest_push(columns, plans, tables, prices):
    """The Pushed of some tables, by the prices of a block and of a row of each."""
    found = placed_pushes(columns, plans)
    check_prices(prices, len(columns))
    known = {}
    costs = []
    for places, push in found:
        parts = []
        for table, plan in enumerate(push):
            # A table's plan hangs on nothing but the draws that stand there.
            here = (table, tuple([place == table for place in places]))
            if here not in known:
                known[here] = cost_of(reading(columns[table], plan, tables[table]), prices[table])
            parts.append(known[here])
        costs.append(total(parts))
    return Pushed(least_of(costs), costs)


def placed_pushes(columns, plans):
    """The list of all pushes, each behind the tuple of the tables at which the movable draws stand."""
    joint_by_names(columns, (plans,))
    rows = [conjuncts_of(plan) for plan in plans]
    draws = sorted({draw for row in rows for draw in row if is_movable(columns, draw)})
    homes = [tables_with(columns, draw[1]) for draw in draws]
    check_many(homes)
    own = [[part for part in row if not is_movable(columns, part)] for row in rows]
    found = []
    for places in tuples_of(homes):
        here = [[draw for draw, place in zip(draws, places) if place == table] for table in range(len(columns))]
        found.append((places, tuple([plan_of(parts + more) for parts, more in zip(own, here)])))
    for _, push in found:
        for columns_of_plan, plan in zip(columns, push):
            checked_plan(columns_of_plan, plan)
    return found


def check_many(homes):
    """Raise TooLarge, if movable draws can stand in too many ways at their tables."""
    many = 1
    for tables in homes:
        many *= len(tables)
        if many > MOST_PUSHES:
            raise TooLarge(many)


def conjuncts_of(plan):
    """The formulas that must all hold for a plan to hold, those of its outermost `and` alone."""
    if plan[0] == "all":
        return ()
    return plan[1] if plan[0] == "and" else (plan,)


def plan_of(conjuncts):
    """The plan that holds if some formulas all hold."""
    if len(conjuncts) == 0:
        return ("all",)
    return conjuncts[0] if len(conjuncts) == 1 else ("and", tuple(conjuncts))


def tables_with(columns, name):
    """The list of the numbers of the tables that have a key column."""
    return [table for table, own in enumerate(columns) if name in own.hashed]


def is_movable(columns, formula):
    """Whether a formula is a draw from a key column that several tables have."""
    return formula[0] == "hash" and len(tables_with(columns, formula[1])) > 1


def check_prices(prices, many):
    """Raise BadPrices, if there are not so many pairs of prices."""
    if not is_row(prices) or len(prices) != many:
        raise BadPrices(None)
    for number, pair in enumerate(prices):
        if not isinstance(pair, tuple) or len(pair) != 2 or not all([is_between(price, 0, FAR) for price in pair]):
            raise BadPrices(number)


def cost_of(read, prices):
    """What it costs to read so many blocks and rows in the mean, by the prices of one of each."""
    blocks, rows = read
    return plus(times((prices[0], 1), blocks), times((prices[1], 1), rows))


def least_of(costs):
    """The number of the first of the least costs."""
    least = 0
    for number, cost in enumerate(costs):
        if is_less(cost, costs[least]):
            least = number
    return least
