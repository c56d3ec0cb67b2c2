"""Tables that are joined, looked at as one.

Each kind of entities that joined tables share, or that one of them has alone, is as a key
column of one large table: under its joint name. Salts of rows get the numbers of tables.
"""

from evensieve.asks import asks_in, types_of
from evensieve.basics import tuples_of
from evensieve.draws import kind_of, tests_in
from evensieve.errors import TooLarge
from evensieve.fractions import ONE, ZERO, product_of, total
from evensieve.kernels import Kernel, held_weights, means_at
from evensieve.measures import check_measures
from evensieve.plans import TESTS, checked_plan
from evensieve.reduced import reduced
from evensieve.states import ROW, Keeping, kinds_of, many_states, weights_of
from evensieve.tables import KEY

MOST_OF_KIND = 6
MOST_TOGETHER = 36


class Joint:
    """The columns of joined tables, and lists of plans that are looked at together.

    A list has one plan for each table; names are dicts from a table's kinds to their joint names.
    """

    def __init__(self, columns, names, lists):
        for plans in lists:
            for own, plan in zip(columns, plans):
                checked_plan(own, plan)
        self.columns = tuple(columns)
        self.names = names
        self.by_table = list(zip(*lists))
        for own, plans in zip(columns, self.by_table):
            check_measures(own, plans)
        self.lists = [[placed(plan, table, names[table]) for table, plan in enumerate(plans)] for plans in lists]
        self.every = [plan for plans in self.lists for plan in plans]
        for plans in self.lists:
            self.check_states(("and", tuple(plans)))

    def check_states(self, plan):
        """Raise TooLarge, if a plan that draws by all of a list's draws has too many states."""
        found = [many_states(self.every, plan, kind) for kind in kinds_of(plan)]
        together = 1
        for many in found:
            together *= many
        for many in found:
            if many > MOST_OF_KIND:
                raise TooLarge(many)
        if together > MOST_TOGETHER:
            raise TooLarge(together)

    def types_at(self, table):
        """The types of a table's plans in all lists."""
        return types_of(self.columns[table], self.by_table[table])

    def kernel_at(self, at):
        """The reduced kernel of a list, in which rows count only where they can be in joined rows."""
        weights, tables = {}, []
        for table in range(len(self.columns)):
            plan = self.drawing(at, table)
            keeping = Keeping(self.every, plan)
            kinds = tuple([kind[len(KEY):] for kind in keeping.drawn_kinds])
            for kind in kinds:
                weights[kind] = weights_of(self.every, plan, KEY + kind)
            asks = asks_in(self.by_table[table])
            tables.append([(kinds, keeping.shares(dict(zip(asks, answers)))) for answers, _ in self.types_at(table)])
        return reduced(Kernel(weights, live_functions(weights, tables)))[0]

    def drawing(self, at, table):
        """The plan of a list for a table, made to draw by all that the list draws from the table's kinds.

        A number is always less than 1, so the plan keeps what it kept.
        """
        own = list(self.names[table].values())
        tests = [test for test in tests_in(self.lists[at]) if test[0] != ROW and test[1] in own]
        return ("and", (self.lists[at][table],) + tuple([test + (ONE,) for test in tests]))


def placed(plan, table, names):
    """A plan of a table, its tests named as those of the large table."""
    if plan[0] == ROW:
        return (ROW, f"{table} {plan[1]}", plan[2])
    if plan[0] in TESTS:
        return ("hash", names[kind_of(plan)]) + plan[-2:]
    if plan[0] == "not":
        return ("not", placed(plan[1], table, names))
    if plan[0] in ("and", "or"):
        return (plan[0], tuple([placed(formula, table, names) for formula in plan[1]]))
    return plan


def live_functions(weights, tables):
    """The functions of all tables, made 0 at the states with which no joined row can be kept."""
    kinds = sorted(weights)
    live = [{} for _ in tables]
    for states in tuples_of([list(range(len(weights[kind]))) for kind in kinds]):
        known = dict(zip(kinds, states))
        places = [tuple([known[kind] for kind in functions[0][0]]) for functions in tables]
        if all([can_keep(functions, place) for functions, place in zip(tables, places)]):
            for table, place in enumerate(places):
                live[table][place] = True
    told = []
    for functions, found in zip(tables, live):
        for own, chances in functions:
            told.append((own, {states: chances[states] if states in found else ZERO for states in chances}))
    return told


def can_keep(functions, states):
    """Whether some type of a table has a chance above 0 at some states."""
    return any([chances[states] != ZERO for _, chances in functions])


def meeting_chances(kernel, many, kind):
    """A dict from pairs of types of two tables to the chances that rows are both kept which share a kind.

    The first functions, so many, are those of the first table.
    """
    held = tuple([kind for own in kernel.kinds() if own == kind])
    weights = held_weights(kernel, held)
    means = [means_at(kernel, number, held) for number in range(len(kernel.functions))]
    found = {}
    for one, chances in enumerate(means[:many]):
        for other, others in enumerate(means[many:]):
            found[(one, other)] = total([product_of(row) for row in zip(weights, chances, others)])
    return found
