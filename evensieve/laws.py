"""Laws: the chances of lots, which are ascending tuples of numbers of rows."""

from evensieve.asks import answers_of, asks_in
from evensieve.basics import is_between, tuples_of
from evensieve.errors import BadLot, TooLarge
from evensieve.fractions import common, lowest
from evensieve.measures import cells_of, check_measures
from evensieve.plans import checked_plan
from evensieve.states import Keeping, kinds_of, weights_of

MOST_COST = 200000


def law_of(table, plan):
    """A dict from all lots that can be kept, ascending, to their chances."""
    check_cost(table, plan, 1 << len(table))
    ways = Ways(table, plan, tuple(range(len(table))))
    counts = {}
    for weight, aboves in ways.found:
        for marks, count in lots_by(aboves, ways.below, weight):
            counts[marks] = counts.get(marks, 0) + count
    lots = {lot_of(marks): lowest(counts[marks], ways.whole) for marks in counts}
    return {lot: lots[lot] for lot in sorted(lots)}


def chance_of(table, plan, lot):
    """The chance that just the rows of a lot are kept."""
    check_lot(table, plan, lot)
    return chance_that(table, plan, lot, tuple([row for row in range(len(table)) if row not in lot]))


def chance_all(table, plan, lot):
    """The chance that all rows of a lot are kept."""
    check_lot(table, plan, lot)
    return chance_that(table, plan, lot, ())


def chance_none(table, plan, lot):
    """The chance that no row of a lot is kept."""
    check_lot(table, plan, lot)
    return chance_that(table, plan, (), lot)


def chance_that(table, plan, kept, dropped):
    """The chance that some rows are kept and some others are not, by a plan that was checked."""
    ways = Ways(table, plan, kept + dropped)
    count = 0
    for weight, aboves in ways.found:
        for above in aboves[:len(kept)]:
            weight *= above
        for above in aboves[len(kept):]:
            weight *= ways.below - above
        count += weight
    return lowest(count, ways.whole)


def check_cost(table, plan, factor):
    """Raise BadPlan or TooLarge, if a plan is none, or a table costs too much by it."""
    checked_plan(table.columns, plan)
    check_measures(table.columns, [plan])
    cost = factor
    for kind in kinds_of(plan):
        for _ in table.entities(kind):
            cost *= cells_of([plan], kind)
    if cost > MOST_COST:
        raise TooLarge(cost)


def check_lot(table, plan, lot):
    """Raise what there is to raise of a table, a plan and a lot."""
    check_cost(table, plan, len(table) + 1)
    checked_lot(table, lot)


def checked_lot(table, lot):
    """The lot itself, if it is an ascending tuple of numbers of rows."""
    if not isinstance(lot, tuple) or not all([is_between(number, 0, len(table) - 1) for number in lot]):
        raise BadLot(lot)
    if not all([number < after for number, after in zip(lot, lot[1:])]):
        raise BadLot(lot)
    return lot


class Ways:
    """All states that the entities of some rows can have.

    `found` has for each of them their weight, and for each row the chance that it is
    kept then, both as the first numbers of fractions: `below` is the second one of a
    row's chance, `whole` that of a weight times one number for each row.
    """

    def __init__(self, table, plan, rows):
        keeping = Keeping((plan,), plan)
        counts = counts_of_rows(table, keeping, rows)
        weights = {kind: common(weights_of((plan,), plan, kind)) for kind in keeping.drawn_kinds}
        entities = [(kind, entity) for kind in weights for entity in sorted({table.entity(row, kind) for row in rows})]
        places = {entity: place for place, entity in enumerate(entities)}
        looks = [[places[(kind, table.entity(row, kind))] for kind in weights] for row in rows]
        self.found = []
        for states in tuples_of([list(enumerate(weights[kind][0])) for kind, _ in entities]):
            weight = 1
            for _, above in states:
                weight *= above
            aboves = [count[tuple([states[place][0] for place in look])] for count, look in zip(counts, looks)]
            self.found.append((weight, aboves))
        self.below = keeping.below
        self.whole = 1
        for below in [weights[kind][1] for kind, _ in entities] + [self.below] * len(rows):
            self.whole *= below


def counts_of_rows(table, keeping, rows):
    """For each row the dict from states to the first numbers of its chances."""
    asks = asks_in([keeping.plan])
    known = {}
    found = []
    for row in rows:
        answers = answers_of(table.columns, asks, table.rows[row][2])
        if answers not in known:
            known[answers] = keeping.counts(dict(zip(asks, answers)))
        found.append(known[answers])
    return found


def lots_by(aboves, below, weight):
    """Pairs of lots and counts, rows being kept independently.

    A lot is told by a number here whose bit i tells whether row i is in it.
    """
    found = [(0, weight)]
    for row, above in enumerate(aboves):
        kept = [(marks + (1 << row), count * above) for marks, count in found if above > 0]
        dropped = [(marks, count * (below - above)) for marks, count in found if above < below]
        found = kept + dropped
    return found


def lot_of(marks):
    """The lot that a number tells."""
    return tuple([row for row in range(marks.bit_length()) if (marks >> row) & 1])
