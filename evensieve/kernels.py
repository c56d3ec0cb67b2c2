"""Kernels: the chances that rows are kept, given the states of their entities."""

from evensieve.asks import asks_in, types_of
from evensieve.basics import tuples_of
from evensieve.fractions import ZERO, plus, product_of, times, total
from evensieve.plans import checked_plan
from evensieve.states import Keeping, weights_of


class Kernel:
    """The weights of the states of each kind, and for each type a function of states."""

    def __init__(self, weights, functions):
        self.weights = {kind: tuple(weights[kind]) for kind in sorted(weights)}
        self.functions = tuple([(tuple(kinds), {states: chances[states] for states in chances})
                                for kinds, chances in functions])

    def kinds(self):
        """The ascending tuple of the kinds."""
        return tuple(sorted(self.weights))

    def __eq__(self, other):
        return isinstance(other, Kernel) and self.weights == other.weights and self.functions == other.functions


def kernel_of(columns, plans, at):
    """The kernel of one of some plans that are looked at together."""
    for plan in plans:
        checked_plan(columns, plan)
    types = types_of(columns, plans)
    asks = asks_in(plans)
    keeping = Keeping(plans, plans[at])
    weights = {kind: weights_of(plans, plans[at], kind) for kind in keeping.drawn_kinds}
    return Kernel(weights, [(keeping.drawn_kinds, keeping.shares(dict(zip(asks, answers)))) for answers, _ in types])


def chance_one(kernel, number):
    """The chance that a row of a type is kept."""
    return means_at(kernel, number, ())[0]


def chance_two(kernel, number, other, shared):
    """The chance that two rows are both kept which share just the entities of some kinds."""
    kinds = kernel.functions[number][0]
    held = tuple([kind for kind in kernel.functions[other][0] if kind in kinds and kind in shared])
    weights, ones, others = held_weights(kernel, held), means_at(kernel, number, held), means_at(kernel, other, held)
    return total([product_of(row) for row in zip(weights, ones, others)])


def held_states(kernel, held):
    """The ascending list of the tuples of states of some kinds."""
    return tuples_of([list(range(len(kernel.weights[kind]))) for kind in held])


def held_weights(kernel, held):
    """The list of the weights of the tuples of states of some kinds."""
    return [product_of(row) for row in tuples_of([kernel.weights[kind] for kind in held])]


def means_at(kernel, number, held):
    """The list of the chances of a row of a type, given the states of some kinds of its function."""
    kinds, chances = kernel.functions[number]
    found = {states: ZERO for states in held_states(kernel, held)}
    for states, chance in chances.items():
        at = tuple([state for kind, state in zip(kinds, states) if kind in held])
        others = [kernel.weights[kind][state] for kind, state in zip(kinds, states) if kind not in held]
        found[at] = plus(found[at], times(product_of(others), chance))
    return list(found.values())
