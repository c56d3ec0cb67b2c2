"""How far sums err, told by the rows that are kept themselves."""

from evensieve.fractions import ONE, ZERO, is_less, minus, over, times, total
from evensieve.laws import chance_of, checked_lot
from evensieve.sums import asked_rows, numbers_of
from evensieve.variances import coefficient, errors_by, kept_chances, shared_by


class HandWeights:
    """By which weights kept rows, and pairs of them, tell the variance in the mean."""

    def __init__(self, singles, pairs):
        self.singles = {answers: singles[answers] for answers in singles}
        self.pairs = {triple: pairs[triple] for triple in pairs}

    def shows(self, columns, plan, where):
        """Whether these are the weights."""
        return self == judge_hand(columns, plan, where)

    def __bool__(self):
        return True

    def __eq__(self, other):
        return isinstance(other, HandWeights) and self.singles == other.singles and self.pairs == other.pairs


class NeverBoth:
    """Two types that are asked for, and the kinds by which such rows are never both kept."""

    def __init__(self, one, other, shared):
        self.one = tuple(one)
        self.other = tuple(other)
        self.shared = tuple(shared)

    def shows(self, columns, plan, where):
        """Whether two such rows that share just these kinds are never both kept."""
        _, pairs = errors_by(columns, (plan, where), 0)
        least, greatest = min(self.one, self.other), max(self.one, self.other)
        return pairs.get((least, greatest, self.shared)) == ZERO

    def __bool__(self):
        return False

    def __eq__(self, other):
        return (isinstance(other, NeverBoth) and self.one == other.one and self.other == other.other
                and self.shared == other.shared)


def judge_hand(columns, plan, where):
    """The HandWeights by which kept rows tell the variance, or a NeverBoth if there are none."""
    singles, pairs = errors_by(columns, (plan, where), 0)
    weights = {}
    for (one, other, shared), factor in pairs.items():
        if factor == ZERO:
            return NeverBoth(one, other, shared)
        both = over(times(singles[one], singles[other]), factor)
        weights[(one, other, shared)] = times(times((2, 1), minus(factor, ONE)), both)
    return HandWeights({answers: times(minus(single, ONE), single) for answers, single in singles.items()}, weights)


def hand_variance(table, plan, where, weights, kept, name):
    """The variance that a lot of kept rows tells by HandWeights that show."""
    kept_chances(table.columns, (plan, where), 0)
    numbers = numbers_of(table, name)
    checked_lot(table, kept)
    asked = asked_rows(table, (plan, where))
    rows = [row for row in kept if row in asked]
    found = [times(weights.singles[asked[row]], (numbers[row] * numbers[row], 1)) for row in rows]
    for at, row in enumerate(rows):
        for other in rows[:at]:
            weight = coefficient(weights.pairs, asked[row], asked[other], shared_by(table, row, other))
            found.append(times(weight, (numbers[row] * numbers[other], 1)))
    return total(found)


def likeliest(table, plans, lot):
    """The numbers of the plans by which a lot is likeliest to be kept, and this chance."""
    chances = [chance_of(table, plan, lot) for plan in plans]
    greatest = ZERO
    for chance in chances:
        if is_less(greatest, chance):
            greatest = chance
    return (tuple([number for number, chance in enumerate(chances) if chance == greatest]), greatest)
