"""How far sums err that are told by kept rows."""

from evensieve.asks import types_of
from evensieve.basics import some_of
from evensieve.errors import BadColumns, NeverKept
from evensieve.fractions import ONE, ZERO, common, lowest, minus, over, plus, times, total
from evensieve.kernels import held_weights, kernel_of, means_at
from evensieve.sums import asked_chances, asked_rows, asked_types, numbers_of
from evensieve.tables import table_sharing


def coefficients(columns, plan, where):
    """A dict from triples (answers, other answers, shared) to how much more often both are kept."""
    return errors_by(columns, (plan, where), 0)[1]


def variance(table, plan, where, name):
    """The variance of the sum that kept rows tell by the weights of judge_sum."""
    singles, pairs = errors_by(table.columns, (plan, where), 0)
    numbers = numbers_of(table, name)
    rows = asked_rows(table, (plan, where))
    found = [times(minus(singles[rows[row]], ONE), (numbers[row] * numbers[row], 1)) for row in rows]
    for row in rows:
        for other in rows:
            if row != other:
                factor = coefficient(pairs, rows[row], rows[other], shared_by(table, row, other))
                found.append(times(minus(factor, ONE), (numbers[row] * numbers[other], 1)))
    return total(found)


def group_parts(columns, plan, where):
    """A dict from triples (answers, other answers, kinds) to their parts of the variance."""
    singles, pairs = errors_by(columns, (plan, where), 0)
    return parts_by(columns, singles, pairs)


def variance_by_groups(table, plan, where, name):
    """The variance, worked out from sums over groups alone."""
    columns = table.columns
    singles, pairs = errors_by(columns, (plan, where), 0)
    numbers = numbers_of(table, name)
    rows = asked_rows(table, (plan, where))
    parts = parts_by(columns, singles, pairs)
    found = []
    for kinds in some_of(columns.kinds()):
        for (one, other), number in group_products(table, rows, numbers, kinds).items():
            found.append(times(parts[(one, other, kinds)], (number, 1)))
    for row, answers in rows.items():
        factor = minus(singles[answers], coefficient(pairs, answers, answers, columns.kinds()))
        found.append(times(factor, (numbers[row] * numbers[row], 1)))
    whole = sum([numbers[row] for row in rows])
    return minus(total(found), (whole * whole, 1))


class ErrAlike:
    """What two plans have in common whose sums err alike."""

    def __init__(self, singles, pairs):
        self.singles = {answers: singles[answers] for answers in singles}
        self.pairs = {triple: pairs[triple] for triple in pairs}

    def shows(self, columns, one, other, where):
        """Whether these are the numbers of both plans."""
        found = errors_of_both(columns, one, other, where)
        return all([errors == (self.singles, self.pairs) for errors in found])

    def __bool__(self):
        return True

    def __eq__(self, other):
        return isinstance(other, ErrAlike) and self.singles == other.singles and self.pairs == other.pairs


class ErrUnlike:
    """A small table and a column of sums that err unlike by two plans."""

    def __init__(self, table, name):
        self.table = table
        self.name = name

    def shows(self, columns, one, other, where):
        """Whether the variances by both plans are unlike."""
        errors_of_both(columns, one, other, where)
        if not self.table.columns == columns or len(self.table) > 2 or self.name not in columns.summed:
            return False
        return variance(self.table, one, where, self.name) != variance(self.table, other, where, self.name)

    def __bool__(self):
        return False

    def __eq__(self, other):
        return isinstance(other, ErrUnlike) and self.table == other.table and self.name == other.name


def judge_errors(columns, one, other, where):
    """An ErrAlike if sums err alike by two plans on every table, otherwise an ErrUnlike."""
    errors, others = errors_of_both(columns, one, other, where)
    if not columns.summed:
        raise BadColumns("summed")
    values = dict(types_of(columns, (one, other, where)))
    for answers in errors[0]:
        if errors[0][answers] != others[0][answers]:
            return ErrUnlike(table_sharing(columns, [values[answers]], ()), columns.summed[0])
    for first, second, shared in errors[1]:
        if errors[1][(first, second, shared)] != others[1][(first, second, shared)]:
            return ErrUnlike(table_sharing(columns, [values[first], values[second]], shared), columns.summed[0])
    return ErrAlike(errors[0], errors[1])


def errors_of_both(columns, one, other, where):
    """What `errors_by` tells of two plans that are looked at together."""
    plans = (one, other, where)
    return errors_by(columns, plans, 0), errors_by(columns, plans, 1)


def errors_by(columns, plans, at):
    """One divided by the chances of the types that are asked for, and the coefficients.

    Both are dicts, by one of some plans, of which the last one is a where.
    """
    chances = kept_chances(columns, plans, at)
    kernel = kernel_of(columns, plans, at)
    numbers = asked_types(columns, plans)
    singles = {answers: over(ONE, chances[answers]) for answers in numbers}
    found = {}
    for shared in some_of(columns.kinds()):
        for (one, other), chance in chances_of_two(kernel, numbers, shared).items():
            found[(one, other, shared)] = times(chance, times(singles[one], singles[other]))
    return singles, {triple: found[triple] for triple in sorted(found)}


def kept_chances(columns, plans, at):
    """The chances of the types that are asked for, all of them above 0."""
    chances = asked_chances(columns, plans, at)
    for answers in sorted(chances):
        if chances[answers] == ZERO:
            raise NeverKept(answers)
    return chances


def chances_of_two(kernel, numbers, shared):
    """A dict from pairs of answers to the chances that two such rows are both kept.

    The numbers are those of the types by their answers; the functions of the kernel
    hang on all of its kinds.
    """
    held = tuple([kind for kind in kernel.kinds() if kind in shared])
    weights, below = common(held_weights(kernel, held))
    rows = {answers: common(means_at(kernel, number, held)) for answers, number in numbers.items()}
    found = {}
    for one, (aboves, below_one) in rows.items():
        weighed = [weight * above for weight, above in zip(weights, aboves)]
        for other, (others, below_other) in rows.items():
            if one <= other:
                count = sum([above * more for above, more in zip(weighed, others)])
                found[(one, other)] = lowest(count, below * below_one * below_other)
    return found


def coefficient(pairs, one, other, shared):
    """The coefficient of two types in whatever order."""
    return pairs[(min(one, other), max(one, other), shared)]


def shared_by(table, row, other):
    """The ascending tuple of the kinds in which two rows have the same entity."""
    return tuple([kind for kind in table.columns.kinds() if table.entity(row, kind) == table.entity(other, kind)])


def parts_by(columns, singles, pairs):
    """The dict of `group_parts`, by the types that are asked for and their coefficients."""
    parts = {}
    for kinds in some_of(columns.kinds()):
        for one in singles:
            for other in singles:
                parts[(one, other, kinds)] = part_of(pairs, one, other, kinds)
    return parts


def part_of(pairs, one, other, kinds):
    """The sum of the coefficients for all tuples of some kinds, every other one turned."""
    told = ZERO
    for some in some_of(kinds):
        factor = coefficient(pairs, one, other, some)
        told = minus(told, factor) if (len(kinds) - len(some)) & 1 else plus(told, factor)
    return told


def group_products(table, rows, numbers, kinds):
    """A dict from pairs of answers to the sum, over all groups, of the products of both sums."""
    groups = {}
    for row, answers in rows.items():
        sums = groups.setdefault(tuple([table.entity(row, kind) for kind in kinds]), {})
        sums[answers] = sums.get(answers, 0) + numbers[row]
    found = {}
    for sums in groups.values():
        for one in sums:
            for other in sums:
                found[(one, other)] = found.get((one, other), 0) + sums[one] * sums[other]
    return found
