"""Sums over joined rows, told by the joined rows that are kept, and how far they err."""

from evensieve.asks import answers_of, asks_in
from evensieve.errors import NeverKept, TooLarge
from evensieve.fractions import ONE, ZERO, minus, over, times, total
from evensieve.joins import BOTH, check_key, joint_by_key
from evensieve.joint import meeting_chances
from evensieve.laws import checked_lot
from evensieve.plans import checked_plan
from evensieve.sums import asked_rows, asked_types, checked_where, numbers_of
from evensieve.tables import KEY, are_values
from evensieve.together import chance_together, row_of, type_numbers

MOST_JOINED = 40


class JoinWeights:
    """By which weights kept joined rows tell the true sum in the mean."""

    def __init__(self, weights):
        self.weights = {answers: weights[answers] for answers in weights}

    def shows(self, one, other, key, pair, wheres):
        """Whether these are the weights, by the answers of all types of both tables."""
        return self == judge_join_sum(one, other, key, pair, wheres)

    def __bool__(self):
        return True

    def __eq__(self, other):
        return isinstance(other, JoinWeights) and self.weights == other.weights


class JoinUnseen:
    """Values of two rows whose joined row is asked for and never kept."""

    def __init__(self, rows):
        self.rows = tuple(rows)

    def shows(self, one, other, key, pair, wheres):
        """Whether they are values of both tables' rows whose joined row is asked for and never kept."""
        joint = joint_with_wheres(one, other, key, pair, wheres)
        both = list(zip(joint.columns, joint.by_table, self.rows))
        if len(self.rows) != 2:
            return False
        if not all([are_values(values, list(columns.asked.values())) for columns, _, values in both]):
            return False
        answers = tuple([answers_of(columns, asks_in(plans), values) for columns, plans, values in both])
        return asked_chances_of(joint).get(answers) == ZERO

    def __bool__(self):
        return False

    def __eq__(self, other):
        return isinstance(other, JoinUnseen) and self.rows == other.rows


def judge_join_sum(one, other, key, pair, wheres):
    """The JoinWeights by which kept joined rows tell sums, or a JoinUnseen if there are none."""
    return judge_joint(joint_with_wheres(one, other, key, pair, wheres))


def true_join_sum(tables, key, wheres, names):
    """The sum of the numbers of all joined rows that are asked for."""
    one, other = tables
    check_key(one.columns, other.columns, key)
    for table, where in zip(tables, wheres):
        checked_plan(table.columns, where)
    check_wheres((one.columns, other.columns), wheres)
    numbers = [numbers_of(table, name) for table, name in zip(tables, names)]
    asked = [list(asked_rows(table, (where,))) for table, where in zip(tables, wheres)]
    return sum([numbers[0][row] * numbers[1][mate] for row, mate in joined_rows(tables, key, asked)])


def join_estimate(tables, key, pair, wheres, weights, lots, names):
    """The sum that joined rows of two lots of kept rows tell by JoinWeights that show."""
    one, other = tables
    joint = joint_with_wheres(one.columns, other.columns, key, pair, wheres)
    numbers = [numbers_of(table, name) for table, name in zip(tables, names)]
    for table, lot in zip(tables, lots):
        checked_lot(table, lot)
    rows, mates = [answers_by_row(table, plans) for table, plans in zip(tables, joint.by_table)]
    found = []
    for row, mate in joined_rows(tables, key, lots):
        found.append(times(weights.weights[(rows[row], mates[mate])], (numbers[0][row] * numbers[1][mate], 1)))
    return total(found)


def join_variance(tables, key, pair, wheres, names):
    """The variance of the sum that kept joined rows tell by the weights of judge_join_sum."""
    one, other = tables
    joint = joint_with_wheres(one.columns, other.columns, key, pair, wheres)
    told = judge_joint(joint)
    if not told:
        raise NeverKept(told.rows)
    numbers = [numbers_of(table, name) for table, name in zip(tables, names)]
    asked = [asked_rows(table, plans) for table, plans in zip(tables, joint.by_table)]
    worths = {}
    for row, mate in joined_rows(tables, key, [list(rows) for rows in asked]):
        number = numbers[0][row] * numbers[1][mate]
        if number != 0:
            worths[(row, mate)] = times(told.weights[(asked[0][row], asked[1][mate])], (number, 1))
    if len(worths) > MOST_JOINED:
        raise TooLarge(len(worths))
    meeting = Meeting(tables, joint)
    found = [times(times(worths[first], worths[second]), meeting.chance_of_both(first, second))
             for first in worths for second in worths]
    whole = sum([numbers[0][row] * numbers[1][mate] for row, mate in worths])
    return minus(total(found), (whole * whole, 1))


def joint_with_wheres(one, other, key, pair, wheres):
    """The Joint of two tables, a pair of plans and a pair of wheres."""
    joint = joint_by_key(one, other, key, (pair, wheres))
    check_wheres(joint.columns, wheres)
    return joint


def check_wheres(columns, wheres):
    """Raise BadPlan, if a where has a test; both are plans."""
    for own, where in zip(columns, wheres):
        checked_where(own, where)


def judge_joint(joint):
    """What `judge_join_sum` tells of the Joint of a pair of plans and a pair of wheres."""
    chances = asked_chances_of(joint)
    weights = {}
    for one, values in joint.types_at(0):
        for other, more in joint.types_at(1):
            answers = (one, other)
            if chances.get(answers) == ZERO:
                return JoinUnseen((values, more))
            weights[answers] = over(ONE, chances[answers]) if answers in chances else ZERO
    return JoinWeights(weights)


def asked_chances_of(joint):
    """A dict from the pairs of answers that are asked for to the chances of such joined rows."""
    ones, others = [asked_types(columns, plans) for columns, plans in zip(joint.columns, joint.by_table)]
    chances = meeting_chances(joint.kernel_at(0), len(joint.types_at(0)), BOTH)
    return {(one, other): chances[(ones[one], others[other])] for one in ones for other in others}


def joined_rows(tables, key, lots):
    """The list of the pairs of rows of a lot of each table that have the same integer in a key column."""
    one, other = tables
    kind = KEY + key
    return [(row, mate) for row in lots[0] for mate in lots[1] if one.entity(row, kind) == other.entity(mate, kind)]


def answers_by_row(table, plans):
    """The list of the answers of a table's rows to the asks of some plans."""
    return [answers_of(table.columns, asks_in(plans), row[2]) for row in table.rows]


class Meeting:
    """The rows of two joined tables, and the chances of lots of them that were asked for."""

    def __init__(self, tables, joint):
        self.kernel = joint.kernel_at(0)
        self.rows = []
        ahead = 0
        for at, table in enumerate(tables):
            names = joint.names[at]
            numbers = [ahead + number for number in type_numbers(table, joint.by_table[at])]
            entities = [{names[kind]: table.entity(row, kind) for kind in names} for row in range(len(table))]
            self.rows.append([row_of(self.kernel, number, own) for number, own in zip(numbers, entities)])
            ahead += len(joint.types_at(at))
        self.known = {}

    def chance_of_both(self, first, second):
        """The chance that all rows of two joined rows are kept."""
        rows = [self.rows[at][row] for at in (0, 1) for row in sorted({first[at], second[at]})]
        lot = renumbered(self.kernel, rows)
        if lot not in self.known:
            self.known[lot] = chance_together(self.kernel, lot)
        return self.known[lot]


def renumbered(kernel, rows):
    """The tuple of rows as they are but for their entities, which get numbers as they come."""
    numbers = {}
    found = []
    for number, row in rows:
        entities = list(zip(kernel.functions[number][0], row))
        for entity in entities:
            numbers.setdefault(entity, len(numbers))
        found.append((number, tuple([numbers[entity] for entity in entities])))
    return tuple(found)
