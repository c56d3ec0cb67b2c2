"""Tests, and the parts into which their thresholds cut a draw."""

from evensieve.fractions import ONE, ZERO, ascending, minus
from evensieve.plans import ASKS, TESTS, formulas_in, is_true
from evensieve.tables import KEY


def tests_in(plans):
    """The ascending tuple of the tests of plans, without their thresholds."""
    return tuple(sorted({formula[:-1] for formula in formulas_in(plans) if formula[0] in TESTS}))


def thresholds(plans, test):
    """The ascending tuple of 0, 1 and all chances of a test in plans."""
    chances = [formula[-1] for formula in formulas_in(plans) if formula[:-1] == test]
    return ascending([ZERO, ONE] + chances)


def lengths(plans, test):
    """The tuple of the lengths of the parts of a test."""
    cuts = thresholds(plans, test)
    return tuple([minus(high, low) for low, high in zip(cuts, cuts[1:])])


def holds_at(plans, plan, answers, parts):
    """Whether one of some plans holds for a row, by its answers and the parts of its tests."""
    told = {}
    for formula in formulas_in([plan]):
        if formula[0] in ASKS:
            told[formula] = answers[formula]
        elif formula[0] in TESTS:
            test, chance = formula[:-1], formula[-1]
            told[formula] = parts[test] < thresholds(plans, test).index(chance)
    return is_true(plan, told)


def kind_of(test):
    """The kind of the entities that a test draws for, "row" for rows themselves."""
    if test[0] == "hash":
        return KEY + test[1]
    return test[0]
