"""Reduced kernels, in which all states differ, and the matchings of two of them."""

from evensieve.basics import is_between, tuples_of
from evensieve.fractions import total
from evensieve.kernels import Kernel, held_states


def reduced(kernel):
    """The kernel in which twins are one state, and the dict from kinds to the classes of states."""
    classes = {kind: twin_classes(kernel, kind) for kind in kernel.kinds()}
    left = [kind for kind in classes if max(classes[kind]) > 0]
    weights = {kind: class_weights(kernel.weights[kind], classes[kind]) for kind in left}
    functions = [merged(kinds, chances, classes, left) for kinds, chances in kernel.functions]
    return Kernel(weights, functions), classes


def twin_classes(kernel, kind):
    """The tuple of the numbers of the classes of a kind's states, twins being in one class."""
    numbers = {}
    found = []
    for state in range(len(kernel.weights[kind])):
        told = [slice_at(kernel, function, kind, state) for function in kernel.functions if kind in function[0]]
        found.append(numbers.setdefault(tuple(told), len(numbers)))
    return tuple(found)


def slice_at(kernel, function, kind, state):
    """The tuple of the chances of a function at a state of a kind, whatever the others are."""
    kinds, chances = function
    place = kinds.index(kind)
    others = held_states(kernel, kinds[:place] + kinds[place + 1:])
    return tuple([chances[states[:place] + (state,) + states[place:]] for states in others])


def class_weights(weights, classes):
    """The list of the weights of classes of states."""
    return [total([weight for weight, at in zip(weights, classes) if at == number])
            for number in range(max(classes) + 1)]


def merged(kinds, chances, classes, left):
    """A function of classes of states, of those kinds that are left."""
    found = {}
    for states, chance in chances.items():
        found[tuple([classes[kind][state] for kind, state in zip(kinds, states) if kind in left])] = chance
    return tuple([kind for kind in kinds if kind in left]), {states: found[states] for states in sorted(found)}


def matchings(one, other, is_weighed, most):
    """A list of different matchings of two reduced kernels, at most so many."""
    if form_of(one) != form_of(other):
        return []
    search = Search(one, other, is_weighed, most)
    search.go_on({})
    return search.found


def is_matching(one, other, maps):
    """Whether a dict is a matching of two reduced kernels that keeps weights."""
    if form_of(one) != form_of(other) or len(maps) != len(one.weights):
        return False
    for kind, weights in one.weights.items():
        if not is_order(maps.get(kind), len(weights)):
            return False
        if weights != tuple([other.weights[kind][goal] for goal in maps[kind]]):
            return False
    for (kinds, chances), (_, others) in zip(one.functions, other.functions):
        for states, chance in chances.items():
            if chance != others[tuple([maps[kind][state] for kind, state in zip(kinds, states)])]:
                return False
    return True


def is_order(value, many):
    """Whether a value is a tuple of the integers from 0 to less than many, each once."""
    if not isinstance(value, tuple) or not all([is_between(number, 0, many - 1) for number in value]):
        return False
    return sorted(value) == list(range(many))


def form_of(kernel):
    """What a matching keeps wherever states go: the numbers of states, the functions' kinds, those with none."""
    many = {kind: len(weights) for kind, weights in kernel.weights.items()}
    return many, [(kinds, chances.get(())) for kinds, chances in kernel.functions]


def maps_of(kernel, mapped):
    """The dict from the kinds of a kernel to the tuples of the states to which states go."""
    return {kind: tuple([mapped[(state, kind)] for state in range(len(weights))])
            for kind, weights in kernel.weights.items()}


class Search:
    """The search for matchings, which maps one state after another."""

    def __init__(self, one, other, is_weighed, most):
        self.one = one
        self.other = other
        self.most = most
        self.found = []
        # States of all kinds take turns, so that functions soon tell what is wrong.
        self.places = sorted([(state, kind) for kind in one.kinds() for state in range(len(one.weights[kind]))])
        self.goals = {(state, kind): alike_states(one, other, is_weighed, kind, state) for state, kind in self.places}

    def go_on(self, mapped):
        """Find what begins with a dict from states to states; the first ones of the places are mapped."""
        if len(self.found) >= self.most:
            return
        if len(mapped) == len(self.places):
            self.found.append(maps_of(self.one, mapped))
            return
        state, kind = self.places[len(mapped)]
        taken = [mapped[(earlier, kind)] for earlier in range(state)]
        for goal in self.goals[(state, kind)]:
            following = {**mapped, (state, kind): goal}
            if goal not in taken and self.agrees(following, kind, state):
                self.go_on(following)

    def agrees(self, mapped, kind, state):
        """Whether functions are kept where they hang on a state that was mapped last."""
        for (kinds, chances), (_, others) in zip(self.one.functions, self.other.functions):
            if kind in kinds:
                rows = [[state] if at == kind else mapped_states(mapped, at) for at in kinds]
                for states in tuples_of(rows):
                    if chances[states] != others[tuple([mapped[place] for place in zip(states, kinds)])]:
                        return False
        return True


def mapped_states(mapped, kind):
    """The list of the states of a kind that are mapped."""
    return [state for state, at in mapped if at == kind]


def alike_states(one, other, is_weighed, kind, state):
    """The states of a kind to which a state may go, for all that can be told of it alone."""
    told = marks_of(one, is_weighed, kind, state)
    states = range(len(other.weights[kind]))
    return [goal for goal in states if marks_of(other, is_weighed, kind, goal) == told]


def marks_of(kernel, is_weighed, kind, state):
    """What a matching keeps of a state, wherever the others go: its chances in ascending order."""
    chances = [sorted(slice_at(kernel, function, kind, state)) for function in kernel.functions if kind in function[0]]
    return (kernel.weights[kind][state] if is_weighed else None, chances)
