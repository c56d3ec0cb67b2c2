"""Sieving: which rows are kept, by numbers that are given or come of a seed."""

from evensieve.asks import answers_of, asks_in
from evensieve.draws import kind_of, tests_in
from evensieve.errors import BadDraws
from evensieve.fractions import is_fraction, is_less, lowest
from evensieve.plans import TESTS, checked_plan, formulas_in, is_true

MODULUS = 2147483647


def needed(table, plans):
    """The ascending tuple of the keys of all numbers at which plans look for a table."""
    tests = tests_in(plans)
    return tuple(sorted({key_of(table, test, number) for test in tests for number in range(len(table))}))


def sieve(table, plan, draws):
    """The ascending tuple of the numbers of the rows that a plan keeps by some draws."""
    checked_plan(table.columns, plan)
    for key in needed(table, [plan]):
        if not is_drawn(draws.get(key)):
            raise BadDraws(key)
    return tuple([number for number in range(len(table)) if is_kept(table, plan, draws, number)])


def drawn(table, plans, seed):
    """A dict from the needed keys, ascending, to numbers that come of a seed."""
    return {key: number_of(key, seed) for key in needed(table, plans)}


def key_of(table, test, number):
    """The key of the number at which a test looks for a row."""
    if test[0] == "row":
        return test + (number,)
    return test + (table.entity(number, kind_of(test)),)


def is_drawn(value):
    """Whether a value is a fraction from 0 to less than 1."""
    return is_fraction(value) and 0 <= value[0] < value[1]


def is_kept(table, plan, draws, number):
    """Whether a plan keeps a row."""
    asks = asks_in([plan])
    told = dict(zip(asks, answers_of(table.columns, asks, table.rows[number][2])))
    for formula in formulas_in([plan]):
        if formula[0] in TESTS:
            told[formula] = is_less(draws[key_of(table, formula[:-1], number)], formula[-1])
    return is_true(plan, told)


def number_of(key, seed):
    """The number that comes of a seed for a key, by the rule of the document."""
    state = seed % MODULUS
    for sign in " ".join([str(part) for part in key]):
        state = (state * 69069 + ord(sign) + 1) % MODULUS
    return lowest((state * 16807 + 12345) % MODULUS, MODULUS)
