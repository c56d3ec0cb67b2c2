"""The states of entities, and the chances that rows are kept at them.

A draw is cut by all thresholds that some plans have for it; a state of an entity is the
tuple of the parts in which its numbers lie, one for each draw of one of the plans.
"""

from evensieve.basics import tuples_of
from evensieve.draws import kind_of, lengths, tests_in, thresholds
from evensieve.fractions import common, lowest, product_of
from evensieve.plans import TESTS, formulas_in

ROW = "row"


def kinds_of(plan):
    """The ascending tuple of the kinds of entities, besides rows, by which a plan draws."""
    return tuple(sorted({kind_of(test) for test in tests_in([plan]) if kind_of(test) != ROW}))


def draws_of(plan, kind):
    """The ascending tuple of the draws of a plan from a kind."""
    return tuple([test for test in tests_in([plan]) if kind_of(test) == kind])


def states_of(plans, plan, kind):
    """The ascending list of the states of a kind by one of some plans."""
    many = [len(lengths(plans, test)) for test in draws_of(plan, kind)]
    return tuples_of([list(range(parts)) for parts in many])


def weights_of(plans, plan, kind):
    """The tuple of the weights of the states of a kind by one of some plans."""
    rows = [lengths(plans, test) for test in draws_of(plan, kind)]
    return tuple([product_of(parts) for parts in tuples_of(rows)])


def many_states(plans, plan, kind):
    """The number of the states of a kind by one of some plans."""
    many = 1
    for test in draws_of(plan, kind):
        many *= len(lengths(plans, test))
    return many


class Keeping:
    """How one of some plans keeps rows, given the states of their entities.

    The states of what is drawn for the row itself are its cells. Some of the cells are
    told by a number whose bit i is 1 if cell i is among them: so a plan is looked at
    once for all cells.
    """

    def __init__(self, plans, plan):
        self.plan = plan
        self.drawn_kinds = kinds_of(plan)
        self.cells, self.below = common(weights_of(plans, plan, ROW))
        self.every = (1 << len(self.cells)) - 1
        limits = limits_of(plans, plan)
        cells_told = cells_by_tests(limits, draws_of(plan, ROW), states_of(plans, plan, ROW))
        self.told = {}
        rows = [states_of(plans, plan, kind) for kind in self.drawn_kinds]
        draws = [test for kind in self.drawn_kinds for test in draws_of(plan, kind)]
        numbers = tuples_of([list(range(len(row))) for row in rows])
        for number, states in zip(numbers, tuples_of(rows)):
            parts = [part for state in states for part in state]
            self.told[number] = {**cells_told, **told_at(limits, dict(zip(draws, parts)), self.every)}

    def counts(self, answers):
        """A dict from tuples of numbers of states to the first numbers of a row's chances.

        The answers are a dict from the asks of the plan; the second number of all
        chances is `below`.
        """
        asked = {ask: self.every if answer else 0 for ask, answer in answers.items()}
        known = {}
        found = {}
        for states, told in self.told.items():
            cells = cells_where(self.plan, {**told, **asked}, self.every)
            if cells not in known:
                known[cells] = sum([cell for at, cell in enumerate(self.cells) if (cells >> at) & 1])
            found[states] = known[cells]
        return found

    def shares(self, answers):
        """A dict from tuples of numbers of states to the chances that a row is kept."""
        return {states: lowest(above, self.below) for states, above in self.counts(answers).items()}


def limits_of(plans, plan):
    """A dict from the tests of a plan to the numbers of the parts, from 0, from which on they fail."""
    tests = [formula for formula in formulas_in([plan]) if formula[0] in TESTS]
    return {test: thresholds(plans, test[:-1]).index(test[-1]) for test in tests}


def told_at(limits, parts, worth):
    """A dict from the tests whose draws lie in known parts to a worth if they hold, 0 otherwise."""
    return {test: worth if parts[test[:-1]] < limit else 0 for test, limit in limits.items() if test[:-1] in parts}


def cells_by_tests(limits, draws, cells):
    """A dict from a row's own tests to the cells where they hold."""
    found = {}
    for at, parts in enumerate(cells):
        for test, worth in told_at(limits, dict(zip(draws, parts)), 1 << at).items():
            found[test] = found.get(test, 0) + worth
    return found


def cells_where(plan, told, every):
    """The cells where a plan holds, by those where its tests and asks hold."""
    if plan[0] in ("all", "none"):
        return every if plan[0] == "all" else 0
    if plan[0] == "not":
        return every - cells_where(plan[1], told, every)
    if plan[0] not in ("and", "or"):
        return told[plan]
    cells = cells_where(plan[1][0], told, every)
    for formula in plan[1][1:]:
        if plan[0] == "and":
            cells = cells & cells_where(formula, told, every)
        else:
            cells = cells | cells_where(formula, told, every)
    return cells
