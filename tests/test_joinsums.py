import unittest
from fractions import Fraction

from evensieve.asks import answers_of, asks_in
from evensieve.errors import BadColumns, BadLot, BadPlan, NeverKept, TooLarge
from evensieve.joins import judge_join
from evensieve.joinsums import (JoinUnseen, JoinWeights, join_estimate, join_variance, judge_join_sum, true_join_sum)
from evensieve.sieveerrors import BadKey
from evensieve.sieving import sieve
from evensieve.tables import Columns, Table
from tests.oracles import Plans, Refusing, both, cut, either, every_drawing, fraction, joined_rows, lots_of, negated, pair

HALF, THIRD, QUARTER = (1, 2), (1, 3), (1, 4)
NOUGHT, ONE = (0, 1), (1, 1)
PLAIN = Columns(["k"], {}, ["x"])
FIRST = Columns(["l", "k"], {"n": "number"}, ["x"])
SECOND = Columns(["k"], {"n": "number"}, ["y", "z"])
ROW, BLOCK, KEY = ("row", "s", HALF), ("block", "s", HALF), ("hash", "k", "s", HALF)
ALL, NONE, LESS, MORE = ("all",), ("none",), ("less", "n", 2), ("not", ("less", "n", 2))
EVERY = (ALL, ALL)
BLOCKS_7 = ("or", tuple(("block", "a", (number, 7)) for number in range(1, 7)))


def rows_asked_for(table, where):
    return [row for row in range(len(table)) if where_holds(table, where, row)]


def where_holds(table, where, row):
    return sieve(table, where, {}).count(row) == 1


def true_sum_of(tables, wheres, places):
    """The true sum of two tables that are joined by k."""
    told = 0
    for row, mate in joined_rows(tables, ("k",)):
        if where_holds(tables[0], wheres[0], row) and where_holds(tables[1], wheres[1], mate):
            told += tables[0].rows[row][3][places[0]] * tables[1].rows[mate][3][places[1]]
    return told


def estimates(tables, pair_of_plans, wheres, weights, names):
    """All estimates with their chances, by going through all draws."""
    for draws, chance in every_drawing(tables, pair_of_plans, ("k",)):
        lots = tuple(sieve(table, plan, own) for table, plan, own in zip(tables, pair_of_plans, draws))
        yield fraction(join_estimate(tables, "k", pair_of_plans, wheres, weights, lots, names)), chance


class Sums(Refusing):

    def check_errors(self, call, key="k"):
        """The errors of what takes two columns, a key, a pair of plans and a pair of wheres."""
        wrong, other, less = ("less", "t", 5), ("hash", "z", "a", HALF), ("less", "n", 5)
        for name in ("l", "x", "n", "z", "", None, 5, ["k"], ("k",), True, "key k"):
            self.assertEqual(self.refused(BadKey, call, FIRST, SECOND, name, (wrong, wrong), (wrong, wrong)).key, name)
        good = (ROW, ROW)
        for plans, wheres, part in (((wrong, other), (5, 6), wrong), ((ROW, other), (5, 6), other), (good, (5, 6), 5),
                                    (good, (less, 6), 6),
                                    ((BLOCKS_7, ROW), (less, wrong), wrong), (good, (ROW, wrong), wrong)):
            self.assertEqual(self.refused(BadPlan, call, FIRST, SECOND, key, plans, wheres).part, part)
        for plans, wheres, number in (((BLOCKS_7, ROW), (ROW, ALL), 7), ((ROW, BLOCKS_7), (ROW, ALL), 7),
                                      (good, (BLOCKS_7, ALL), 7),
                                      (good, (ROW, BLOCKS_7), 7), ((cut(("hash", "k", "a"), 4),
                                                                    cut(("hash", "k", "b"), 3)), (ALL, KEY), 12),
                                      ((both(cut(("block", "a"), 6), KEY), cut(("block", "a"), 4)), (KEY, ROW), 48)):
            self.assertEqual(self.refused(TooLarge, call, FIRST, SECOND, key, plans, wheres).number, number)
        for wheres, part in (((ROW, KEY), ROW), ((ALL, KEY), KEY), ((both(less, either(KEY, BLOCK)), ROW), KEY),
                             ((less, negated(BLOCK)), BLOCK)):
            self.assertEqual(self.refused(BadPlan, call, FIRST, SECOND, key, good, wheres).part, part)
            self.assertEqual(self.refused(BadPlan, call, FIRST, SECOND, key, (NONE, ROW), wheres).part, part)


class TestTrueJoinSum(Sums):

    def test_example(self):
        tables = (Table(PLAIN, [(0, (1,), (), (3,)), (0, (2,), (), (4,))]), Table(PLAIN, [(0, (1,), (), (5,))]))
        self.assertEqual(true_join_sum(tables, "k", EVERY, ("x", "x")), 15)
        self.assertEqual(true_join_sum(list(tables), "k", list(EVERY), ["x", "x"]), 15)

    def test_unlike_columns(self):
        tables = (Table(FIRST, [(0, (9, 1), (1,), (2,)), (0, (8, 1), (5,), (3,)), (0, (1, 2), (1,), (7,))]),
                  Table(SECOND, [(0, (1,), (0,), (10, 100)), (3, (1,), (9,), (20, -200)), (3, (9,), (1,), (1, 1))]))
        for wheres, name, told in ((EVERY, "y", 150), (EVERY, "z", -500), ((LESS, ALL), "y", 60),
                                   ((LESS, MORE), "z", -400),
                                   ((MORE, LESS), "y", 30), ((NONE, ALL), "y", 0)):
            self.assertEqual(true_join_sum(tables, "k", wheres, ("x", name)), told)

    def test_random_tables(self):
        for seed in range(30):
            ones, others = Plans(FIRST, seed), Plans(SECOND, seed + 100)
            tables, wheres = (ones.table(4), others.table(3)), (ones.where(), others.where())
            self.assertEqual(true_join_sum(tables, "k", wheres, ("x", "z")), true_sum_of(tables, wheres, (0, 1)))

    def test_errors(self):
        tables = (Table(FIRST, []), Table(SECOND, []))
        wrong = ("less", "t", 5)
        for key in ("l", "z", None, 5, ["k"]):
            self.assertEqual(self.refused(BadKey, true_join_sum, tables, key, (wrong, wrong), ("q", "q")).key, key)
        for wheres, part in (((wrong, 5), wrong), ((ALL, 5), 5), ((ROW, 5), 5), ((ROW, KEY), ROW),
                             ((ALL, both(LESS, KEY)), KEY)):
            self.assertEqual(self.refused(BadPlan, true_join_sum, tables, "k", wheres, ("q", "q")).part, part)
        self.check_names(lambda names: true_join_sum(tables, "k", EVERY, names))

    def check_names(self, call):
        for names, name in ((("q", "q"), "q"), (("x", "x"), "x"), (("y", "y"), "y"), (("y", "q"), "y"),
                            (("x", None), None), ((5, "y"), 5),
                            (("k", "y"), "k"), (("x", "n"), "n"), ((["x"], "y"), ["x"])):
            self.assertEqual(self.refused(BadColumns, call, names).part, name)


class TestJudgeJoinSum(Sums):

    def told(self, one, other, plans, wheres, weights):
        told = judge_join_sum(one, other, "k", plans, wheres)
        self.assertEqual(told, JoinWeights(weights))
        self.assertEqual(told.weights, weights)
        self.assertIs(bool(told), True)
        self.assertIs(told.shows(one, other, "k", plans, wheres), True)
        self.assertIs(told.shows(one, other, "k", list(plans), list(wheres)), True)

    def test_example(self):
        self.told(PLAIN, PLAIN, (KEY, KEY), EVERY, {((), ()): (2, 1)})

    def test_by_hand(self):
        for plans, weight in (((KEY, ALL), 2), ((ROW, ROW), 4), ((KEY, ("hash", "k", "t", THIRD)), 6),
                              ((KEY, ("hash", "k", "s", THIRD)), 3),
                              ((BLOCK, BLOCK), 4), (EVERY, 1), ((both(KEY, ROW), both(KEY, ROW)), 8)):
            self.told(PLAIN, PLAIN, plans, EVERY, {((), ()): (weight, 1)})
        self.told(PLAIN, PLAIN, ((either(KEY, ROW)), KEY), EVERY, {((), ()): (2, 1)})

    def test_wheres(self):
        types = ((False,), (True,))
        self.told(FIRST, SECOND, (ROW, both(LESS, KEY)), (LESS, LESS), {
            (one, other): (4, 1) if one == other == (True,) else NOUGHT for one in types for other in types})
        self.told(FIRST, SECOND, (ROW, KEY), (LESS, NONE), {(one, ()): NOUGHT for one in types})
        self.told(FIRST, SECOND, (either(LESS, ROW), KEY), EVERY, {((False,), ()): (4, 1), ((True,), ()): (2, 1)})
        self.told(FIRST, SECOND, (NONE, ROW), (ALL, NONE), {((), ()): NOUGHT})
        self.told(PLAIN, SECOND, (KEY, either(both(LESS, KEY), ROW)), (ALL, ("less", "n", 1)), {
            ((), (False, False)): NOUGHT, ((), (False, True)): NOUGHT, ((), (True, True)): (2, 1)})

    def unseen(self, one, other, plans, wheres):
        told = judge_join_sum(one, other, "k", plans, wheres)
        self.assertIsInstance(told, JoinUnseen)
        self.assertIs(bool(told), False)
        self.assertIs(told.shows(one, other, "k", plans, wheres), True)
        self.assertEqual(len(told.rows), 2)
        return told

    def test_joined_rows_that_are_never_kept(self):
        self.assertEqual(self.unseen(PLAIN, PLAIN, (KEY, negated(KEY)), EVERY), JoinUnseen(((), ())))
        self.unseen(PLAIN, PLAIN, (NONE, ALL), EVERY)
        told = self.unseen(FIRST, SECOND, (both(LESS, ROW), ALL), (ALL, LESS))
        self.assertGreaterEqual(told.rows[0][0], 2)
        self.assertLess(told.rows[1][0], 2)
        told = self.unseen(FIRST, SECOND, (ROW, both(MORE, KEY)), (ALL, ("less", "n", 3)))
        self.assertLess(told.rows[1][0], 2)
        split = either(both(LESS, KEY), both(MORE, negated(KEY)))
        told = self.unseen(FIRST, SECOND, (split, split), EVERY)
        self.assertNotEqual(told.rows[0][0] < 2, told.rows[1][0] < 2)
        self.told(FIRST, SECOND, (split, split), (LESS, LESS), {
            ((one,), (other,)): (2, 1) if one and other else NOUGHT for one in (False, True) for other in (False,
                                                                                                           True)})

    def test_texts(self):
        named = Columns(["k"], {"name": "text"}, ["x"])
        like = ("like", "name", "a*")
        self.told(named, PLAIN, (both(like, KEY), ROW), (("is", "name", "ab"), ALL), {
            ((one, other), ()): (4, 1) if one else NOUGHT for one, other in ((False, False), (False, True),
                                                                             (True, True))})
        self.unseen(named, PLAIN, (both(("is", "name", "ab"), KEY), ROW), (like, ALL))

    def test_means(self):
        seen = 0
        for seed in range(60):
            ones, others = Plans(FIRST, seed), Plans(SECOND, seed + 100)
            plans, wheres = (ones.plan(2), others.plan(2)), (ones.where(), others.where())
            told = judge_join_sum(FIRST, SECOND, "k", plans, wheres)
            self.assertIs(told.shows(FIRST, SECOND, "k", plans, wheres), True)
            if not told:
                self.never_kept(told, plans, wheres)
                continue
            tables = (ones.table(2), others.table(2))
            mean = sum(estimate * chance for estimate, chance in estimates(tables, plans, wheres, told, ("x", "z")))
            self.assertEqual(mean, true_sum_of(tables, wheres, (0, 1)))
            seen += true_sum_of(tables, wheres, (0, 1)) != 0
        self.assertGreater(seen, 8)

    def never_kept(self, told, plans, wheres):
        """Rows with the told values are asked for and never kept together, by going through all draws."""
        tables = (Table(FIRST, [(0, (1, 1), told.rows[0], (1,))]), Table(SECOND, [(0, (1,), told.rows[1], (1, 1))]))
        self.assertEqual([rows_asked_for(table, where) for table, where in zip(tables, wheres)], [[0], [0]])
        for draws, _ in every_drawing(tables, plans, ("k",)):
            self.assertFalse(all(sieve(table, plan, own) for table, plan, own in zip(tables, plans, draws)))

    def test_errors(self):
        for call in (judge_join_sum, JoinWeights({}).shows, JoinUnseen(((), ())).shows, JoinUnseen(()).shows):
            self.check_errors(call)


class TestJoinWeights(unittest.TestCase):

    def test_attributes_and_equal(self):
        weights = {((), ()): (2, 1)}
        told = JoinWeights(weights)
        weights.clear()
        self.assertEqual(told.weights, {((), ()): (2, 1)})
        self.assertEqual(told, JoinWeights({((), ()): (2, 1)}))
        for other in (JoinWeights({}), JoinWeights({((), ()): (1, 1)}), JoinUnseen(((), ())), None, told.weights):
            self.assertNotEqual(told, other)
            self.assertNotEqual(other, told)

    def test_what_does_not_show(self):
        case = (FIRST, SECOND, "k", (either(LESS, ROW), KEY), (ALL, LESS))
        right = judge_join_sum(*case).weights
        self.assertEqual(right, {((False,), (False,)): NOUGHT, ((False,), (True,)): (4, 1), ((True,), (False,)): NOUGHT,
                                 ((True,), (True,)): (2, 1)})
        self.assertIs(JoinWeights(right).shows(*case), True)
        for answers in right:
            fewer = {key: weight for key, weight in right.items() if key != answers}
            for weights in (fewer, {**right, answers: (3, 1)}, {**right, answers: None},
                            {**fewer, answers[::-1] + ((),): (4, 1)}):
                self.assertIs(JoinWeights(weights).shows(*case), False)
        self.assertIs(JoinWeights({**right, ((), ()): NOUGHT}).shows(*case), False)
        for plans, wheres in (((either(LESS, ROW), ROW), (ALL, ALL)), ((ROW, KEY), (LESS, LESS)),
                              ((both(LESS, ROW), KEY), (ALL, LESS)),
                              ((either(LESS, ("row", "s", THIRD)), KEY), (ALL, LESS))):
            self.assertIs(JoinWeights(right).shows(FIRST, SECOND, "k", plans, wheres), False)


class TestJoinUnseen(unittest.TestCase):

    def test_attributes_and_equal(self):
        rows = [(3,), (1,)]
        told = JoinUnseen(rows)
        rows.clear()
        self.assertEqual(told.rows, ((3,), (1,)))
        self.assertEqual(told, JoinUnseen(((3,), (1,))))
        for other in (JoinUnseen(((1,), (3,))), JoinUnseen(()), JoinWeights({}), None, told.rows):
            self.assertNotEqual(told, other)
            self.assertNotEqual(other, told)

    def test_shows(self):
        case = (FIRST, SECOND, "k", (either(both(LESS, KEY), both(MORE, ROW)), negated(KEY)), (ALL, LESS))
        for rows in (((1,), (1,)), ((-5,), (0,)), [(1,), (1,)]):
            self.assertIs(JoinUnseen(rows).shows(*case), True)
        for rows in (((2,), (1,)), ((1,), (2,)), ((1,), (True,)), ((1,),), (), ((1,), (1,), (1,)), ((1,), ()),
                     ((), (1,)), ((1, 1), (1,)),
                     (("1",), (1,)), ((1,), (None,)), ((1000001,), (1,)), ((1,), 1), (None, (1,))):
            self.assertIs(JoinUnseen(rows).shows(*case), False, rows)
        for plans, wheres in (((LESS, KEY), (ALL, LESS)), ((both(LESS, KEY), negated(KEY)), (MORE, LESS)),
                              (EVERY, EVERY)):
            self.assertIs(JoinUnseen(((1,), (1,))).shows(FIRST, SECOND, "k", plans, wheres), False)


class TestJoinEstimate(Sums):

    TABLES = (Table(FIRST, [(0, (9, 1), (1,), (2,)), (0, (8, 1), (5,), (3,)), (0, (1, 2), (1,), (7,))]),
              Table(SECOND, [(0, (1,), (0,), (10, 100)), (3, (1,), (9,), (20, -200)), (3, (9,), (1,), (1, 1))]))
    PLANS = (either(LESS, ROW), KEY)

    def told(self, wheres, lots, names):
        weights = judge_join_sum(FIRST, SECOND, "k", self.PLANS, wheres)
        for row in (list, tuple):
            told = join_estimate(row(self.TABLES), "k", row(self.PLANS), row(wheres), weights, row(lots), row(names))
        return told

    def test_by_hand(self):
        for wheres, lots, name, told in ((EVERY, ((0, 1, 2), (0, 1, 2)), "y", (2 * 2 * 30 + 4 * 3 * 30, 1)),
                                         (EVERY, ((), (0, 1)), "y", NOUGHT),
                                         (EVERY, ((0,), (0,)), "z", (400, 1)), (EVERY, ((1,), (1,)), "z", (-2400, 1)),
                                         (EVERY, ((2,), (2,)), "y", NOUGHT),
                                         ((MORE, ALL), ((0, 1), (0,)), "y", (120, 1)),
                                         ((NONE, ALL), ((0, 1), (0,)), "y", NOUGHT),
                                         ((ALL, MORE), ((0,), (0, 1, 2)), "y", (80, 1))):
            self.assertEqual(self.told(wheres, lots, ("x", name)), told)

    def test_errors(self):
        weights = judge_join_sum(FIRST, SECOND, "k", self.PLANS, EVERY)
        self.check_errors(lambda one, other, key, plans, wheres: join_estimate(
            (Table(one, []), Table(other, [])), key, plans, wheres, weights, ((5,), 7), ("q", "q")))
        TestTrueJoinSum.check_names(self, lambda names: join_estimate(self.TABLES, "k", self.PLANS, EVERY, weights,
                                                                      (5, 6), names))
        for lots, lot in (((5, 6), 5), (((), 6), 6), (((0, 0), ()), (0, 0)), (((1, 0), ()), (1, 0)), (((3,), ()), (3,)),
                          (((), (3,)), (3,)),
                          (((), (-1,)), (-1,)), (((True,), ()), (True,)), (((0,), (False,)), (False,)),
                          (((), [0]), [0]), (((0, 1.0), ()), (0, 1.0)),
                          ((("0",), ()), ("0",)), ((None, ()), None)):
            self.assertEqual(self.refused(BadLot, join_estimate, self.TABLES, "k", self.PLANS, EVERY, weights, lots,
                                          ("x", "y")).lot, lot)

    def test_all_lots(self):
        weights = judge_join_sum(FIRST, SECOND, "k", self.PLANS, EVERY)
        for lot in lots_of(3):
            for other in lots_of(3):
                told = Fraction(0)
                for row, mate in joined_rows(self.TABLES, ("k",)):
                    if row in lot and mate in other:
                        answers = tuple(answers_of(table.columns, asks_in((plan,)), table.rows[at][2])
                                        for table, plan, at in zip(self.TABLES, self.PLANS, (row, mate)))
                        told += fraction(weights.weights[answers]) * self.TABLES[0].rows[row][3][0] * self.TABLES[1].rows[mate][3][1]
                self.assertEqual(self.told(EVERY, (lot, other), ("x", "z")), pair(told))


class TestJoinVariance(Sums):

    def test_example(self):
        tables = (Table(PLAIN, [(0, (1,), (), (3,)), (0, (2,), (), (4,))]), Table(PLAIN, [(0, (1,), (), (5,))]))
        told = [join_variance(tables, "k", plans, EVERY, ("x", "x")) for plans in ((KEY, KEY), (ROW, ROW))]
        self.assertEqual(told, [(225, 1), (675, 1)])

    def test_by_hand(self):
        one = Table(PLAIN, [(0, (1,), (), (1,)), (1, (1,), (), (1,))])
        other = Table(PLAIN, [(0, (1,), (), (1,)), (0, (2,), (), (5,))])
        for plans, told in ((EVERY, 0), ((KEY, ALL), 4), ((ROW, ALL), 2), ((ALL, ROW), 4), ((BLOCK, ALL), 2),
                            ((ALL, BLOCK), 4),
                            ((ROW, ROW), 4 * 2 + 2 * 2 - 4), ((KEY, ("hash", "k", "t", HALF)), 12)):
            self.assertEqual(join_variance((one, other), "k", plans, EVERY, ("x", "x")), (told, 1))
        self.assertEqual(join_variance((one, Table(PLAIN, [])), "k", (ROW, ROW), EVERY, ("x", "x")), NOUGHT)

    def test_against_all_draws(self):
        seen = 0
        for seed in range(90):
            ones, others = Plans(FIRST, seed), Plans(SECOND, seed + 100)
            plans, wheres = (ones.plan(2), others.plan(2)), (ones.where(), others.where())
            weights = judge_join_sum(FIRST, SECOND, "k", plans, wheres)
            if not weights:
                continue
            tables = (ones.table(2), others.table(2))
            rows = list(estimates(tables, plans, wheres, weights, ("x", "z")))
            mean = sum(estimate * chance for estimate, chance in rows)
            told = sum((estimate - mean) ** 2 * chance for estimate, chance in rows)
            self.assertEqual(join_variance(tables, "k", plans, wheres, ("x", "z")), pair(told + Fraction(0)))
            seen += told != 0
        self.assertGreater(seen, 8)

    def test_plans_that_keep_joined_rows_alike(self):
        tables = (Plans(FIRST, 3).table(6), Plans(SECOND, 4).table(6))
        first, second = (both(KEY, ROW), LESS), (ROW, both(KEY, LESS))
        self.assertTrue(judge_join(FIRST, SECOND, "k", first, second))
        told = [join_variance(tables, "k", plans, (ALL, LESS), ("x", "y")) for plans in (first, second)]
        self.assertEqual(told[0], told[1])
        self.assertGreater(told[0][0], 0)

    def test_never_kept(self):
        tables = (Table(FIRST, []), Table(SECOND, []))
        for plans, wheres in (((KEY, negated(KEY)), EVERY), ((both(LESS, ROW), ALL), EVERY),
                              ((ROW, both(LESS, KEY)), (LESS, ALL))):
            rows = self.refused(NeverKept, join_variance, tables, "k", plans, wheres, ("q", "q")).answers
            self.assertEqual(JoinUnseen(rows), judge_join_sum(FIRST, SECOND, "k", plans, wheres))
            self.assertIsInstance(rows, tuple)
            self.assertTrue(JoinUnseen(rows).shows(FIRST, SECOND, "k", plans, wheres))

    def test_errors(self):
        self.check_errors(lambda one, other, key, plans, wheres: join_variance(
            (Table(one, []), Table(other, [])), key, plans, wheres, ("q", "q")))
        huge = (Table(FIRST, [(0, (0, 1), (at,), (1,)) for at in range(7)]),
                Table(SECOND, [(0, (1,), (at,), (1, 1)) for at in range(6)]))
        TestTrueJoinSum.check_names(self, lambda names: join_variance(huge, "k", (ROW, ROW), EVERY, names))
        self.assertEqual(self.refused(TooLarge, join_variance, huge, "k", (ROW, ROW), EVERY, ("x", "y")).number, 42)
        self.refused(NeverKept, join_variance, huge, "k", (ROW, NONE), EVERY, ("x", "y"))

    def test_forty_joined_rows(self):
        def tables(many, noughts):
            rows = [(at, (at,), (), (at + 1,)) for at in range(many)] + [(0, (0,), (), (0,))] * noughts
            return (Table(PLAIN, rows), Table(PLAIN, [(at, (at,), (), (1,)) for at in range(many)] + [(0, (0,), (),
                                                                                                       (0,))] * noughts))
        for noughts in (0, 5, 15):
            told = join_variance(tables(40, noughts), "k", (KEY, ROW), EVERY, ("x", "x"))
            self.assertEqual(told, (3 * sum((at + 1) ** 2 for at in range(40)), 1))
            self.assertEqual(self.refused(TooLarge, join_variance, tables(41, noughts), "k", (KEY, ROW), EVERY,
                                          ("x", "x")).number, 41)
        # rows that are not asked for do not count
        one = Table(FIRST, [(0, (0, at // 2), (at,), (1,)) for at in range(60)])
        other = Table(SECOND, [(0, (at,), (0,), (1, 0)) for at in range(30)])
        self.assertEqual(self.refused(TooLarge, join_variance, (one, other), "k", (KEY, ROW), EVERY, ("x", "y")).number,
                         60)
        self.assertEqual(join_variance((one, other), "k", (KEY, ALL), (("less", "n", 40), ALL), ("x", "y")),
                         (20 * 4, 1))
        self.assertEqual(self.refused(TooLarge, join_variance, (one, other), "k", (KEY, ALL), (("less", "n", 41), ALL),
                                      ("x", "y")).number, 41)
        self.assertEqual(join_variance((one, other), "k", (KEY, ALL), EVERY, ("x", "z")), NOUGHT)

    def test_large_plans(self):
        plans = (both(cut_below("block", 3), ("hash", "l", "s", HALF), KEY, ROW), both(cut_below("block", 3), KEY, ROW))
        tables = (Table(FIRST, [(at % 3, (at % 2, at % 4), (at,), (at,)) for at in range(12)]),
                  Table(SECOND, [(at % 2, (at % 4,), (at,), (at, 1)) for at in range(12)]))
        told = join_variance(tables, "k", plans, EVERY, ("x", "z"))
        self.assertGreater(told[0], 0)


def cut_below(kind, many):
    """A plan that keeps all but the last part of a draw that is cut in so many."""
    return either(*[(kind, "a", (number, many)) for number in range(1, many)])


if __name__ == "__main__":
    unittest.main()
