"""The chance that several rows are kept together."""

from evensieve.asks import answers_of, asks_in, types_of
from evensieve.basics import tuples_of
from evensieve.fractions import common, lowest


def type_numbers(table, plans):
    """The list of the numbers of the types of a table's rows, by the asks of some plans."""
    asks = asks_in(plans)
    types = types_of(table.columns, plans)
    numbers = {answers: number for number, (answers, _) in enumerate(types)}
    return [numbers[answers_of(table.columns, asks, row[2])] for row in table.rows]


def row_of(kernel, number, entities):
    """A row of a type, as `chance_together` takes it, by a dict from kinds to its entities."""
    return (number, tuple([entities[kind] for kind in kernel.functions[number][0]]))


def rows_of(kernel, table, plans):
    """The rows of a table, as `chance_together` takes them, by a kernel of one of some plans."""
    kinds = kernel.kinds()
    return [row_of(kernel, number, {kind: table.entity(row, kind) for kind in kinds})
            for row, number in enumerate(type_numbers(table, plans))]


def chance_together(kernel, rows):
    """The chance that some rows are all kept.

    A row is a pair of the number of its type and the tuple of its entities, one of each
    kind on which the type's function hangs.
    """
    crowd = Crowd(kernel, rows)
    count = 0
    for states in tuples_of([list(range(len(crowd.weights[kind]))) for kind, _ in crowd.others]):
        count += crowd.count_with(dict(zip(crowd.others, states)))
    return lowest(count, crowd.whole)


class Crowd:
    """Some rows and their entities; an entity is told by its kind and its number.

    Given the states of all other entities, those of one kind, the last one, have theirs
    independently: so only the others' states are gone through. Counts are the first
    numbers of fractions, of which `whole` is the second one.
    """

    def __init__(self, kernel, rows):
        found = [(number, tuple(zip(kernel.functions[number][0], row))) for number, row in rows]
        entities = sorted({entity for _, row in found for entity in row})
        weights = {kind: common(kernel.weights[kind]) for kind, _ in entities}
        sizes = {}
        for kind, _ in entities:
            sizes[kind] = sizes.get(kind, 0) + len(kernel.weights[kind])
        last = max(sizes, key=lambda kind: sizes[kind], default=None)
        self.weights = {kind: aboves for kind, (aboves, _) in weights.items()}
        self.others = [entity for entity in entities if entity[0] != last]
        self.free = []
        self.by_last = {entity: [] for entity in entities if entity[0] == last}
        self.whole = 1
        for kind, _ in entities:
            self.whole *= weights[kind][1]
        functions = {number: counts_of(kernel.functions[number][1]) for number, _ in found}
        for number, row in found:
            counts, below = functions[number]
            self.whole *= below
            ends = [entity for entity in row if entity[0] == last]
            lot = self.by_last[ends[0]] if ends else self.free
            lot.append((counts, row))

    def count_with(self, known):
        """The count of the ways in which all rows are kept, the others' states being known."""
        count = count_kept(self.free, known)
        for (kind, _), state in known.items():
            count *= self.weights[kind][state]
        at = {**known}
        for entity, rows in self.by_last.items():
            ways = 0
            for state, weight in enumerate(self.weights[entity[0]]):
                at[entity] = state
                ways += weight * count_kept(rows, at)
            count *= ways
        return count


def counts_of(chances):
    """The dict of a function with the first numbers of its chances over one second number, and this."""
    aboves, below = common(list(chances.values()))
    return dict(zip(chances, aboves)), below


def count_kept(rows, known):
    """The count of the ways in which rows are kept whose entities have known states."""
    count = 1
    for counts, row in rows:
        count *= counts[tuple([known[entity] for entity in row])]
    return count
