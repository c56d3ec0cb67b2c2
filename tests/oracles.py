"""What tests compare the program with: the same numbers, found by going through everything."""

import itertools
import random
import unittest
from fractions import Fraction

from evensieve.draws import lengths, tests_in, thresholds
from evensieve.sieving import needed, sieve
from evensieve.tables import Table


class Refusing(unittest.TestCase):

    def refused(self, error, told, *args):
        """The error that a call raises."""
        with self.assertRaises(error) as caught:
            told(*args)
        return caught.exception


def pair(value):
    """A Fraction as the program writes it."""
    return (value.numerator, value.denominator)


def fraction(value):
    return Fraction(*value)


def both(*formulas):
    return ("and", formulas)


def either(*formulas):
    return ("or", formulas)


def negated(formula):
    return ("not", formula)


def cut(test, many):
    """A plan by which a draw has so many parts."""
    parts = [test + (pair(Fraction(number, many)),) for number in range(1, many)]
    return ("or", (("none",), *parts, ("none",)))


def every_sieving(table, plan):
    """All lots that are kept, with the chance of each way in which numbers can lie."""
    keys = needed(table, [plan])
    parts = []
    for key in keys:
        test = key[:-1]
        parts.append(list(zip(thresholds([plan], test), lengths([plan], test))))
    for ways in itertools.product(*parts):
        chance = Fraction(1)
        for _, length in ways:
            chance *= fraction(length)
        yield sieve(table, plan, dict(zip(keys, [low for low, _ in ways]))), chance


def brute_law(table, plan):
    told = {}
    for lot, chance in every_sieving(table, plan):
        told[lot] = told.get(lot, 0) + chance
    return {lot: told[lot] for lot in sorted(told) if told[lot]}


def brute_variance(chances, told):
    """The variance of what a function tells of lots, by what law_of tells."""
    rows = [(fraction(chance), fraction(told(lot))) for lot, chance in chances.items()]
    mean = sum(chance * worth for chance, worth in rows)
    return sum(chance * (worth - mean) ** 2 for chance, worth in rows)


def lots_of(many):
    """All lots of so many rows, ascending."""
    rows = range(many)
    return sorted(lot for size in range(many + 1) for lot in itertools.combinations(rows, size))


class Plans:
    """Plans and tables that come of a seed."""

    def __init__(self, columns, seed, chances=((1, 2), (1, 3), (2, 3))):
        self.columns = columns
        self.random = random.Random(seed)
        self.chances = chances
        self.asks = [("less", name, number) for name, kind in columns.asked.items() if kind == "number"
                     for number in (1, 2)]
        self.asks += [("like", name, "a*") for name, kind in columns.asked.items() if kind == "text"]

    def single(self):
        pick = self.random.choice
        tests = [("row", "a"), ("block", "a"), ("row", "b")] + [("hash", key, "a") for key in self.columns.hashed]
        if self.asks and self.random.random() < 0.3:
            return pick(self.asks)
        return pick(tests) + (pick(self.chances),)

    def plan(self, depth=3):
        draw = self.random.random()
        if depth == 1 or draw < 0.2:
            return self.single()
        if draw < 0.35:
            return ("not", self.plan(depth - 1))
        many = self.random.choice((2, 2, 3))
        return (self.random.choice(("and", "or")), tuple(self.plan(depth - 1) for _ in range(many)))

    def where(self):
        if not self.asks:
            return ("all",)
        return self.random.choice(self.asks + [("not", self.asks[0]), ("all",), ("or", (self.asks[0], self.asks[-1]))])

    def table(self, rows, blocks=2, keys=2):
        told = []
        for _ in range(rows):
            whole = self.random.randrange
            values = tuple(whole(4) if kind == "number" else self.random.choice(("", "a", "ab", "b"))
                           for kind in self.columns.asked.values())
            told.append((whole(blocks), tuple(whole(keys) for _ in self.columns.hashed), values,
                         tuple(whole(-3, 6) for _ in self.columns.summed)))
        return Table(self.columns, told)


def draws_in(plan):
    return len(tests_in([plan]))


def every_drawing(tables, plans, shared):
    """All ways in which the numbers lie at which the plans of joined tables look, with their chances.

    Tables have the draws from shared key columns in common. A way is a list of draws for each table.
    """
    keys = [[(key, key if key[0] == "hash" and key[1] in shared else (table,) + key) for key in needed(rows, [plan])]
            for table, (rows, plan) in enumerate(zip(tables, plans))]
    owners = {}
    for own, plan in zip(keys, plans):
        for key, name in own:
            owners.setdefault(name, (key[:-1], []))[1].append(plan)
    names = list(owners)
    parts = [list(zip(thresholds(own, test), lengths(own, test))) for test, own in owners.values()]
    for ways in itertools.product(*parts):
        chance = Fraction(1)
        for _, length in ways:
            chance *= fraction(length)
        lows = dict(zip(names, [low for low, _ in ways]))
        yield [{key: lows[name] for key, name in own} for own in keys], chance


def joined_rows(tables, shared):
    """All joined rows, as tuples of numbers of rows, by shared key columns."""
    found = []
    for rows in itertools.product(*[range(len(table)) for table in tables]):
        known = {}
        if all(known.setdefault(name, integer) == integer for table, row in zip(tables, rows)
               for name, integer in zip(table.columns.hashed, table.rows[row][1]) if name in shared):
            found.append(rows)
    return found


def joined_law(tables, plans, shared):
    """The chances of all lots of joined rows that are kept."""
    joined = joined_rows(tables, shared)
    told = {}
    for draws, chance in every_drawing(tables, plans, shared):
        kept = [set(sieve(table, plan, own)) for table, plan, own in zip(tables, plans, draws)]
        lot = tuple(rows for rows in joined if all(row in own for row, own in zip(rows, kept)))
        told[lot] = told.get(lot, 0) + chance
    return {lot: told[lot] for lot in sorted(told)}
