import unittest
from fractions import Fraction

from evensieve.asks import types_of
from evensieve.errors import BadLot, BadPlan, TooLarge
from evensieve.laws import chance_all, law_of
from evensieve.sums import Unseen, Weights, checked_where, estimate, expected_keys, judge_sum, true_sum
from evensieve.tables import Columns, Table
from tests.oracles import Plans, Refusing, fraction, pair

COLUMNS = Columns(["k"], {"n": "number", "t": "text"}, ["x", "y"])
HALF, THIRD = (1, 2), (1, 3)
ROW, BLOCK, HASH = ("row", "a", HALF), ("block", "a", THIRD), ("hash", "k", "a", (1, 4))
ALL = ("all",)
LESS = ("less", "n", 5)
TABLE = Table(COLUMNS, [(0, (1,), (4, ""), (10, 1)), (0, (2,), (5, "a"), (-3, 1)), (1, (1,), (-9, "b"), (7, 1))])
BLOCKS_7 = ("or", tuple(("block", "a", (number, 7)) for number in range(1, 7)))


class TestWheres(Refusing):

    def test_plans_without_tests(self):
        for where in (ALL, ("none",), LESS, ("not", ("like", "t", "a*")), ("or", (LESS, ("and", (ALL, ("is", "n", 5)))))):
            self.assertIs(checked_where(COLUMNS, where), where)

    def test_the_first_test_is_told(self):
        for part in (ROW, BLOCK, HASH, ("row", "a", (1, 1)), ("row", "a", (0, 1))):
            for where in (part, ("not", part), ("and", (LESS, part)), ("or", (("not", part), ROW)),
                          ("or", (("and", (ALL, part)), ("hash", "k", "b", HALF)))):
                self.assertEqual(self.refused(BadPlan, checked_where, COLUMNS, where).part, part)

    def test_what_is_no_plan_comes_first(self):
        wrong = ("less", "t", 5)
        for where in (wrong, ("and", (ROW, wrong)), ("or", (ROW, ("not", wrong), BLOCK))):
            self.assertEqual(self.refused(BadPlan, checked_where, COLUMNS, where).part, wrong)
        for where in (5, None, [], ["all"], ()):
            self.assertEqual(self.refused(BadPlan, checked_where, COLUMNS, where).part, where)


class TestTrueSum(Refusing):

    def test_by_hand(self):
        self.assertEqual(true_sum(TABLE, ALL, "x"), 14)
        self.assertEqual(true_sum(TABLE, LESS, "x"), 17)
        self.assertEqual(true_sum(TABLE, ("not", LESS), "x"), -3)
        self.assertEqual(true_sum(TABLE, ("none",), "x"), 0)
        self.assertEqual(true_sum(TABLE, ("like", "t", "?"), "y"), 2)

    def test_no_rows(self):
        self.assertEqual(true_sum(Table(COLUMNS, []), ALL, "x"), 0)

    def test_wheres_without_tests_alone(self):
        self.assertEqual(self.refused(BadPlan, true_sum, TABLE, ("or", (ALL, BLOCK)), "x").part, BLOCK)


class TestWeights(Refusing):

    def told(self, plan, where, weights):
        told = judge_sum(COLUMNS, plan, where)
        self.assertEqual(told, Weights(weights))
        self.assertEqual(told.weights, weights)
        self.assertIs(bool(told), True)
        self.assertIs(told.shows(COLUMNS, plan, where), True)

    def test_no_asks(self):
        self.told(ALL, ALL, {(): (1, 1)})
        self.told(ROW, ALL, {(): (2, 1)})
        self.told(("and", (ROW, BLOCK, HASH)), ALL, {(): (24, 1)})
        self.told(("row", "a", (2, 3)), ALL, {(): (3, 2)})

    def test_asks_in_the_plan_alone(self):
        self.told(("or", (("and", (LESS, BLOCK)), ROW)), ALL, {(False,): (2, 1), (True,): (3, 2)})

    def test_asks_in_the_where_alone(self):
        self.told(ROW, LESS, {(False,): (0, 1), (True,): (2, 1)})
        self.told(ROW, ("not", LESS), {(False,): (2, 1), (True,): (0, 1)})
        self.told(ROW, ("and", (LESS, ("not", LESS))), {(False,): (0, 1), (True,): (0, 1)})

    def test_asks_in_both(self):
        self.told(("or", (LESS, ROW)), ("like", "t", "a"), {
            (False, False): (0, 1), (False, True): (2, 1), (True, False): (0, 1), (True, True): (1, 1)})
        self.told(("and", (LESS, ROW)), LESS, {(False,): (0, 1), (True,): (2, 1)})

    def test_nothing_is_asked_for(self):
        self.told(("none",), ("none",), {(): (0, 1)})
        self.told(("none",), ("less", "n", -1000000), {(False,): (0, 1)})

    def test_what_does_not_show(self):
        plan, right = ("or", (LESS, ROW)), {(False,): (2, 1), (True,): (1, 1)}
        self.assertTrue(Weights(right).shows(COLUMNS, plan, ALL))
        for wrong in ({}, {(False,): (2, 1)}, {**right, (False,): (1, 1)}, {**right, (True,): (2, 1)},
                      {**right, (): (1, 1)}, {**right, (True, True): (1, 1)}, {(): (1, 1)}, {**right, (False,): (0, 1)},
                      {(True, False): (2, 1), (True, True): (1, 1)}):
            self.assertIs(Weights(wrong).shows(COLUMNS, plan, ALL), False)

    def test_behind_other_plans_and_wheres(self):
        told = Weights({(False,): (2, 1), (True,): (1, 1)})
        for plan, where in ((ROW, ALL), (("or", (LESS, BLOCK)), ALL), (("or", (LESS, ROW)), LESS),
                            (("and", (LESS, ROW)), ALL), (("or", (LESS, ROW)), ("is", "n", 5))):
            self.assertIs(told.shows(COLUMNS, plan, where), False)
        self.assertTrue(told.shows(COLUMNS, ("not", ("and", (("not", LESS), ROW))), ("or", (LESS, ALL))))

    def test_no_weights_where_a_type_is_never_kept(self):
        self.assertIs(Weights({(False,): (0, 1), (True,): (2, 1)}).shows(COLUMNS, ("and", (LESS, ROW)), ALL), False)


class TestUnseen(Refusing):

    PLAN = ("and", (LESS, ROW))

    def told(self, plan, where, answers):
        told = judge_sum(COLUMNS, plan, where)
        self.assertIsInstance(told, Unseen)
        self.assertEqual(told.answers, answers)
        self.assertIn((told.answers, told.row), types_of(COLUMNS, (plan, where)))
        self.assertIs(bool(told), False)
        self.assertIs(told.shows(COLUMNS, plan, where), True)

    def test_told(self):
        self.told(("none",), ALL, ())
        self.told(("and", (ROW, ("not", ROW))), ALL, ())
        self.told(self.PLAN, ALL, (False,))
        self.told(("not", ("or", (LESS, ROW))), LESS, (True,))
        self.told(self.PLAN, ("like", "t", "a*"), (False, True))

    def test_others_that_show(self):
        for row in ((5, ""), (5, "a"), (1000000, "any \n text"), [7, "list"]):
            self.assertTrue(Unseen((False,), row).shows(COLUMNS, self.PLAN, ALL))
        self.assertTrue(Unseen([False], (5, "")).shows(COLUMNS, self.PLAN, ALL))

    def test_answers_that_are_wrong(self):
        for answers in ((), (True,), (False, False), (True, False)):
            for row in ((5, ""), (4, "")):
                self.assertIs(Unseen(answers, row).shows(COLUMNS, self.PLAN, ALL), False)

    def test_values_that_are_wrong(self):
        for row in ((4, ""), (), (5,), (5, "", ""), ("", 5), (5, 5), ("5", ""), (1000001, ""), (-1000001, ""),
                    (True, ""), (None, ""), (5, None)):
            self.assertIs(Unseen((False,), row).shows(COLUMNS, self.PLAN, ALL), False)

    def test_types_that_are_kept_or_not_asked_for(self):
        self.assertIs(Unseen((True,), (4, "")).shows(COLUMNS, self.PLAN, ALL), False)
        self.assertIs(Unseen((False,), (5, "")).shows(COLUMNS, self.PLAN, LESS), False)
        self.assertIs(Unseen((False,), (5, "")).shows(COLUMNS, ("or", (LESS, ROW)), ALL), False)
        self.assertIs(Unseen((), (5, "")).shows(COLUMNS, ROW, ALL), False)
        self.assertTrue(Unseen((), (5, "")).shows(COLUMNS, ("row", "a", (0, 1)), ALL))

    def test_columns_without_values(self):
        columns = Columns([], {}, [])
        self.assertEqual(judge_sum(columns, ("none",), ALL), Unseen((), ()))
        self.assertTrue(Unseen((), ()).shows(columns, ("none",), ALL))


class TestEvidence(Refusing):

    def test_attributes(self):
        given = {(True,): HALF}
        told = Weights(given)
        self.assertEqual(told.weights, given)
        given[(False,)] = HALF
        self.assertEqual(told.weights, {(True,): HALF})
        told = Unseen([True], [1, "a"])
        self.assertEqual((told.answers, told.row), ((True,), (1, "a")))

    def test_equal(self):
        self.assertEqual(Weights({(): HALF}), Weights({(): HALF}))
        self.assertNotEqual(Weights({(): HALF}), Weights({(): THIRD}))
        self.assertEqual(Unseen((), (1,)), Unseen([], [1]))
        self.assertNotEqual(Unseen((), (1,)), Unseen((), (2,)))
        self.assertNotEqual(Unseen((True,), (1,)), Unseen((), (1,)))
        for told in (Weights({}), Unseen((), ())):
            for other in (None, {}, (), ((), ()), False, Weights({1: 1}), Unseen((), (1,))):
                self.assertNotEqual(told, other)
                self.assertNotEqual(other, told)
        self.assertNotEqual(Weights({}), Unseen((), ()))

    def test_weights_are_new(self):
        judge_sum(COLUMNS, ROW, ALL).weights.clear()
        self.assertEqual(judge_sum(COLUMNS, ROW, ALL).weights, {(): (2, 1)})

    def test_errors(self):
        wrong, further = ("less", "t", 5), ("like", "n", "a")
        calls = [judge_sum, Weights({(): (2, 1)}).shows, Unseen((), (1, "a")).shows,
                 lambda columns, plan, where: estimate(TABLE, plan, where, None, None, "x")]
        for call in calls:
            for plan, where, part in ((wrong, further, wrong), (ROW, further, further), (wrong, ROW, wrong),
                                      (ROW, BLOCK, BLOCK), (BLOCKS_7, ("and", (LESS, BLOCK)), BLOCK),
                                      (BLOCKS_7, ("and", (ROW, wrong)), wrong)):
                self.assertEqual(self.refused(BadPlan, call, COLUMNS, plan, where).part, part)
            self.assertEqual(self.refused(TooLarge, call, COLUMNS, BLOCKS_7, ALL).number, 7)
            plan = ("or", tuple(("less", "n", number) for number in range(4)))
            where = ("or", tuple(("less", "n", number) for number in range(3, 7)))
            self.assertEqual(self.refused(TooLarge, call, COLUMNS, plan, where).number, 7)


class TestEstimate(Refusing):

    def test_by_hand(self):
        plan, where = ("or", (LESS, ROW)), ALL
        weights = judge_sum(COLUMNS, plan, where)
        for kept, told in (((), (0, 1)), ((0,), (10, 1)), ((1,), (-6, 1)), ((0, 1), (4, 1)), ((0, 1, 2), (11, 1))):
            self.assertEqual(estimate(TABLE, plan, where, weights, kept, "x"), told)
        self.assertEqual(estimate(TABLE, plan, where, weights, (0, 1), "y"), (3, 1))
        weights = judge_sum(COLUMNS, ("row", "a", (2, 3)), LESS)
        self.assertEqual(estimate(TABLE, ("row", "a", (2, 3)), LESS, weights, (0, 1, 2), "x"), (51, 2))

    def test_the_mean_is_the_true_sum(self):
        seen = 0
        for seed in range(80):
            plans = Plans(COLUMNS, seed)
            plan, where = plans.plan(), plans.where()
            weights = judge_sum(COLUMNS, plan, where)
            if weights:
                for rows in range(5):
                    table = plans.table(rows)
                    mean = sum([fraction(chance) * fraction(estimate(table, plan, where, weights, lot, "x"))
                                for lot, chance in law_of(table, plan).items()])
                    self.assertEqual(mean, true_sum(table, where, "x"))
                    seen += 1
            else:
                row = (0, (0,), weights.row, (1, 1))
                self.assertEqual(chance_all(Table(COLUMNS, [row]), plan, (0,)), (0, 1))
                self.assertEqual(true_sum(Table(COLUMNS, [row]), where, "x"), 1)
        self.assertGreater(seen, 100)

    def test_what_is_no_lot(self):
        weights = judge_sum(COLUMNS, ROW, ALL)
        for lot in ([0], (1, 0), (0, 0), (3,), (-1,), (True,), None, "", ("a",)):
            self.assertIs(self.refused(BadLot, estimate, TABLE, ROW, ALL, weights, lot, "x").lot, lot)

    def test_any_table(self):
        table = Table(COLUMNS, [(row, (row,), (row, ""), (row, 0)) for row in range(60)])
        weights = judge_sum(COLUMNS, BLOCK, ALL)
        self.assertEqual(estimate(table, BLOCK, ALL, weights, tuple(range(60)), "x"), (1770 * 3, 1))


class TestExpectedKeys(Refusing):

    def test_by_hand(self):
        self.assertEqual(expected_keys(TABLE, ALL, "k"), (2, 1))
        self.assertEqual(expected_keys(TABLE, ("none",), "k"), (0, 1))
        self.assertEqual(expected_keys(TABLE, HASH, "k"), (1, 2))
        self.assertEqual(expected_keys(TABLE, ROW, "k"), (5, 4))
        # the first and the third row have one key, in two blocks
        self.assertEqual(expected_keys(TABLE, BLOCK, "k"), (8, 9))
        self.assertEqual(expected_keys(TABLE, LESS, "k"), (1, 1))
        self.assertEqual(expected_keys(Table(COLUMNS, []), ROW, "k"), (0, 1))

    def test_by_laws(self):
        columns = Columns(["k", "l"], {"n": "number"}, [])
        for seed in range(60):
            plans = Plans(columns, seed)
            plan = plans.plan()
            for rows in range(5):
                table = plans.table(rows, keys=3)
                for place, name in enumerate(columns.hashed):
                    mean = sum([fraction(chance) * len({table.rows[row][1][place] for row in lot})
                                for lot, chance in law_of(table, plan).items()], Fraction(0))
                    self.assertEqual(expected_keys(table, plan, name), pair(mean))

    def test_errors(self):
        wrong = ("less", "t", 5)
        wide = Table(COLUMNS, [(row, (row,), (0, ""), (0, 0)) for row in range(60)])
        self.assertEqual(self.refused(BadPlan, expected_keys, wide, ("not", wrong), "k").part, wrong)
        self.assertEqual(self.refused(TooLarge, expected_keys, wide, BLOCKS_7, "k").number, 7)
        self.assertEqual(self.refused(TooLarge, expected_keys, wide, BLOCK, "k").number, 2 ** 60 * 61)
        twelve = Table(COLUMNS, [(min(row, 11), (0,), (0, ""), (0, 0)) for row in range(48)])
        self.assertEqual(self.refused(TooLarge, expected_keys, twelve, BLOCK, "k").number, 4096 * 49)
        eleven = Table(COLUMNS, twelve.rows[1:])
        self.assertEqual(expected_keys(Table(COLUMNS, eleven.rows[:40]), HASH, "k"), (1, 4))

    def test_just_at_the_greatest_cost(self):
        five = ("or", tuple(("block", "a", (number, 5)) for number in range(1, 5)))
        rows = [(min(row, 4), (row,), (0, ""), (0, 0)) for row in range(31)]
        table = Table(COLUMNS, [(block, (0,), values, sums) for block, _, values, sums in rows])
        self.assertEqual(expected_keys(table, ("and", (five, ("hash", "k", "a", HALF))), "k"),
                         pair(Fraction(1, 2) * (1 - Fraction(1, 5) ** 5)))
        again = Table(COLUMNS, [(block, (min(row, 1),), values, sums) for row, (block, _, values, sums) in enumerate(rows)])
        self.assertEqual(self.refused(TooLarge, expected_keys, again, ("and", (five, HASH)), "k").number, 400000)


if __name__ == "__main__":
    unittest.main()
