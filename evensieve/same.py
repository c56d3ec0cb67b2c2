"""Whether plans keep rows alike, with what shows it or the contrary."""

from itertools import combinations

from evensieve.arrays import array_chance, array_of
from evensieve.basics import is_between, tuples_of
from evensieve.fractions import ONE, common
from evensieve.kernels import kernel_of
from evensieve.plans import checked_plan
from evensieve.reduced import is_matching, matchings, reduced

# More matchings than there are: kernels of plans have some hundreds at most.
ALL_MATCHINGS = 1000000000


class Same:
    """A matching of two reduced kernels that keeps weights."""

    def __init__(self, maps):
        self.maps = {kind: maps[kind] for kind in maps}

    def shows(self, columns, one, other):
        """Whether it is one of the kernels of two plans."""
        return self.shows_kernels(kernels_of(columns, one, other))

    def shows_kernels(self, pair):
        """Whether it is one of two reduced kernels."""
        one, other = pair
        return is_matching(one, other, self.maps)

    def __bool__(self):
        return True

    def __eq__(self, other):
        return isinstance(other, Same) and self.maps == other.maps


class Unlike:
    """Chosen states of one of two reduced kernels, whose array has unlike chances by both."""

    def __init__(self, which, chosen, chances):
        self.which = which
        self.chosen = {kind: chosen[kind] for kind in chosen}
        self.chances = tuple(chances)

    def shows(self, columns, one, other):
        """Whether it is so of the kernels of two plans."""
        return self.shows_kernels(kernels_of(columns, one, other))

    def shows_kernels(self, pair):
        """Whether it is so of two reduced kernels."""
        if not is_between(self.which, 0, 1) or not are_chosen(self.chosen, pair, self.which):
            return False
        found = array_chances(pair, self.which, self.chosen)
        return found == self.chances and found[0] != found[1]

    def __bool__(self):
        return False

    def __eq__(self, other):
        return (isinstance(other, Unlike) and self.which == other.which and self.chosen == other.chosen
                and self.chances == other.chances)


def judge_pair(pair):
    """A Same of two reduced kernels if there is one, otherwise an Unlike."""
    one, other = pair
    found = matchings(one, other, True, 1)
    if found:
        return Same(found[0])
    goals = matchings(one, other, False, 1)
    if goals:
        return unlike_of(pair, 0, further_states(one, other, goals[0]))
    # A kernel with fewer states of some kind cannot have an array with all of them.
    which = 1 if has_more(other, one) and not has_more(one, other) else 0
    return unlike_of(pair, which, [])


def judge_same(columns, one, other):
    """A Same if two plans keep rows alike, otherwise an Unlike."""
    return judge_pair(kernels_of(columns, one, other))


def classes_of(columns, plans):
    """The tuple of the numbers of the first plans that keep rows like each of some plans."""
    for plan in plans:
        checked_plan(columns, plan)
    return tuple([first_alike(columns, plans, number) for number in range(len(plans))])


def first_alike(columns, plans, number):
    """The number of the first plan that keeps rows like the plan of a number."""
    for earlier in range(number):
        if judge_same(columns, plans[earlier], plans[number]):
            return earlier
    return number


def kernels_of(columns, one, other):
    """The pair of the reduced kernels of two plans that are looked at together."""
    return tuple([reduced(kernel_of(columns, (one, other), at))[0] for at in (0, 1)])


def kinds_of_both(pair):
    """The ascending list of the kinds of one or the other of two kernels."""
    return sorted({kind for kernel in pair for kind in kernel.weights})


def many_of(kernel, kind):
    """The number of a kernel's states of a kind, 1 if it does not have the kind."""
    return len(kernel.weights.get(kind, (ONE,)))


def has_more(one, other):
    """Whether one kernel has more states of some kind than another one."""
    return any([many_of(one, kind) > many_of(other, kind) for kind in one.weights])


def are_chosen(chosen, pair, which):
    """Whether a dict tells for just the kinds of two kernels some states of one of them."""
    kinds = kinds_of_both(pair)
    if len(chosen) != len(kinds):
        return False
    return all([are_states(chosen.get(kind), many_of(pair[which], kind)) for kind in kinds])


def are_states(value, many):
    """Whether a value is a tuple of at least one number of so many states."""
    if not isinstance(value, tuple) or len(value) == 0:
        return False
    return all([is_between(state, 0, many - 1) for state in value])


def array_chances(pair, which, chosen):
    """The chances, by both of two kernels, of the array of chosen states of one of them."""
    array = array_of(pair[which], chosen)
    return tuple([array_chance(kernel, array) for kernel in pair])


def unlike_of(pair, which, further):
    """The Unlike with all states of one of two kernels and further ones, pairs of kinds and states."""
    chosen = {}
    for kind in kinds_of_both(pair):
        more = [state for own, state in further if own == kind]
        chosen[kind] = tuple(list(range(many_of(pair[which], kind))) + more)
    return Unlike(which, chosen, array_chances(pair, which, chosen))


def further_states(one, other, goal):
    """The states of one that are to be chosen once more, by a matching that keeps no weights.

    An array with all states fits a kernel in as many ways as there are matchings of the
    one with itself. A way's point has for each state the weight of the state to which it
    goes; further states multiply the way's chance by their coordinates.
    """
    weights, others = {}, {}
    for kind in one.kinds():
        aboves, _ = common(one.weights[kind] + other.weights[kind])
        for state in range(len(one.weights[kind])):
            weights[(kind, state)] = aboves[state]
            others[(kind, state)] = aboves[len(one.weights[kind]) + goal[kind][state]]
    places = list(weights)
    turns = matchings(one, one, False, ALL_MATCHINGS)
    moved = [[(own, turn[own][at]) for own, at in places] for turn in turns]
    points = [tuple([weights[place] for place in row]) for row in moved]
    other_points = [tuple([others[place] for place in row]) for row in moved]
    return [places[at] for at in telling(points, other_points)]


def telling(points, others):
    """The numbers of few coordinates, as often as needed, whose products tell two rows of points apart.

    The product of all coordinates is the same at all points of one row, and counts anyhow.
    """
    many = len(points[0])
    every = tuple(range(many))
    if sum_of_products(points, every) != sum_of_products(others, every):
        return ()
    for size in range(1, many + 1):
        for chosen in combinations(range(many), size):
            if shadow(points, chosen) != shadow(others, chosen):
                return powers(points, others, chosen)
    return ()


def shadow(points, chosen):
    """What chosen coordinates tell of points in whatever order."""
    return sorted([tuple([point[at] for at in chosen]) for point in points])


def powers(points, others, chosen):
    """The least powers of all of some coordinates that tell points apart, as fewer coordinates do not.

    No power needs to be as great as the number of different values of the coordinate.
    """
    rows = [list(range(1, len({point[at] for point in points + others}))) for at in chosen]
    for exponents in sorted(tuples_of(rows), key=sum):
        found = tuple([at for at, exponent in zip(chosen, exponents) for _ in range(exponent)])
        if sum_of_products(points, found) != sum_of_products(others, found):
            return found
    return ()


def sum_of_products(points, chosen):
    """The sum over points of the products of chosen coordinates."""
    found = 0
    for point in points:
        count = 1
        for at in chosen:
            count *= point[at]
        found += count
    return found
