"""Fractions: pairs (above, below) of integers in lowest terms, below at least 1."""

from math import gcd, lcm

from evensieve.basics import is_whole

ZERO = (0, 1)
ONE = (1, 1)


def lowest(above, below):
    """The fraction of two integers, of which the second is not 0."""
    shared = gcd(above, below)
    if below < 0:
        shared = -shared
    return (above // shared, below // shared)


def plus(one, other):
    """The sum of two fractions."""
    return lowest(one[0] * other[1] + other[0] * one[1], one[1] * other[1])


def minus(one, other):
    """The difference of two fractions."""
    return lowest(one[0] * other[1] - other[0] * one[1], one[1] * other[1])


def times(one, other):
    """The product of two fractions."""
    return lowest(one[0] * other[0], one[1] * other[1])


def over(one, other):
    """The quotient of two fractions, of which the second is not 0."""
    return lowest(one[0] * other[1], one[1] * other[0])


def is_less(one, other):
    """Whether the first of two fractions is the smaller one."""
    return one[0] * other[1] < other[0] * one[1]


def total(rows):
    """The sum of a row of fractions."""
    told = ZERO
    for row in rows:
        told = plus(told, row)
    return told


def product_of(rows):
    """The product of a row of fractions."""
    told = ONE
    for row in rows:
        told = times(told, row)
    return told


def is_fraction(value):
    """Whether a value of any kind is a fraction."""
    if not isinstance(value, tuple) or len(value) != 2:
        return False
    above, below = value
    return is_whole(above) and is_whole(below) and below >= 1 and gcd(above, below) == 1


def common(rows):
    """A row of fractions as the tuple of their first numbers over one second number, and this."""
    below = 1
    for row in rows:
        below = lcm(below, row[1])
    return tuple([row[0] * (below // row[1]) for row in rows]), below


def ascending(rows):
    """The different ones of a row of fractions, from the least to the greatest."""
    found = dict(zip(common(rows)[0], rows))
    return tuple([found[above] for above in sorted(found)])
