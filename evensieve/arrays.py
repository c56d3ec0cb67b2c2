"""Arrays: what shares of endlessly many rows are kept for each tuple of some entities."""

from evensieve.basics import tuples_of
from evensieve.fractions import ONE, ZERO, plus, product_of, times, total
from evensieve.reduced import reduced


class Array:
    """How many entities there are of each kind, and for each type the shares at all tuples of them."""

    def __init__(self, sizes, entries):
        self.sizes = {kind: sizes[kind] for kind in sorted(sizes)}
        self.entries = tuple([{entities: shares[entities] for entities in shares} for shares in entries])

    def __eq__(self, other):
        return isinstance(other, Array) and self.sizes == other.sizes and self.entries == other.entries


def array_of(kernel, chosen):
    """The array of entities with chosen states."""
    kinds = sorted(chosen)
    places = tuples_of([list(range(len(chosen[kind]))) for kind in kinds])
    entries = []
    for own, chances in kernel.functions:
        entries.append({place: chances[states_at(chosen, own, kinds, place)] for place in places})
    return Array({kind: len(chosen[kind]) for kind in kinds}, entries)


def states_at(chosen, own, kinds, place):
    """The tuple of the chosen states of those entities at a place that are of a function's own kinds."""
    return tuple([chosen[kind][entity] for kind, entity in zip(kinds, place) if kind in own])


def array_chance(kernel, array):
    """The chance that the shares of entities are those of an array."""
    # Twins show the same shares; without them there is less to go through.
    small, _ = reduced(kernel)
    rows = [shares_at(kinds, array, shares) for (kinds, _), shares in zip(small.functions, array.entries)]
    if any([row is None for row in rows]):
        return ZERO
    return Fitting(small, array, rows).chance()


def shares_at(kinds, array, shares):
    """A dict from tuples of entities of some kinds to shares, or None if they hang on other kinds, too."""
    found = {}
    for entities, share in shares.items():
        at = tuple([entity for kind, entity in zip(array.sizes, entities) if kind in kinds])
        if found.setdefault(at, share) != share:
            return None
    return found


class Fitting:
    """Goes through the states of all entities but those of one kind, the last one.

    Given all the others, the entities of the last kind have their states independently:
    so it is enough to know which states of each of them are still possible. A condition
    is looked at as soon as all other entities in it have their states; states that no
    later condition looks at are forgotten, and what is alike then is counted together.
    """

    def __init__(self, kernel, array, rows):
        self.weights = kernel.weights
        kinds = sorted(kernel.kinds(), key=lambda kind: array.sizes[kind] * len(kernel.weights[kind]))
        self.last = kinds[-1] if kinds else None
        self.start = ()
        if kinds:
            self.start = (tuple(range(len(self.weights[self.last]))),) * array.sizes[self.last]
        self.places = sorted([(entity, kind) for kind in kinds[:-1] for entity in range(array.sizes[kind])])
        order = {place: at + 1 for at, place in enumerate(self.places)}
        self.conditions = [[] for _ in range(len(self.places) + 1)]
        until = {place: 0 for place in self.places}
        for (own, chances), row in zip(kernel.functions, rows):
            for entities, share in row.items():
                placed = [place for place in zip(entities, own) if place in order]
                when = max([0] + [order[place] for place in placed])
                self.conditions[when].append((own, chances, entities, share))
                until.update({place: max(until[place], when) for place in placed})
        self.needed = [[place for place in self.places[:at] if until[place] > at] for at in range(len(self.places) + 1)]

    def chance(self):
        """The sum of the weights of all states with which all conditions hold."""
        start = self.narrowed({}, self.start, 0)
        ways = {} if start is None else {((), start): ONE}
        for at, place in enumerate(self.places):
            following = {}
            for (states, possible), weight in ways.items():
                for state, share in enumerate(self.weights[place[1]]):
                    known = {**dict(zip(self.needed[at], states)), place: state}
                    left = self.narrowed(known, possible, at + 1)
                    if left is not None:
                        way = (tuple([known[kept] for kept in self.needed[at + 1]]), left)
                        following[way] = plus(following.get(way, ZERO), times(weight, share))
            ways = following
        return total([times(weight, self.chance_left(possible)) for (_, possible), weight in ways.items()])

    def narrowed(self, known, possible, at):
        """The last kind's possible states behind some conditions, or None if one fails."""
        left = list(possible)
        for kinds, chances, entities, share in self.conditions[at]:
            states = [known.get(place) for place in zip(entities, kinds)]
            if self.last in kinds:
                turn = kinds.index(self.last)
                rows = {state: tuple(states[:turn] + [state] + states[turn + 1:]) for state in left[entities[turn]]}
                left[entities[turn]] = tuple([state for state in rows if chances[rows[state]] == share])
                if not left[entities[turn]]:
                    return None
            elif chances[tuple(states)] != share:
                return None
        return tuple(left)

    def chance_left(self, possible):
        """The chance that all entities of the last kind have possible states."""
        return product_of([total([self.weights[self.last][state] for state in states]) for states in possible])
