import unittest
from fractions import Fraction

from evensieve.errors import BadColumns, BadLot, BadPlan, NeverKept, TooLarge
from evensieve.laws import chance_of, law_of
from evensieve.onhand import HandWeights, NeverBoth, hand_variance, judge_hand, likeliest
from evensieve.sums import judge_sum
from evensieve.tables import Columns, Table
from evensieve.variances import variance
from tests.oracles import Plans, Refusing, fraction, pair

COLUMNS = Columns(["k"], {"n": "number"}, ["x", "y"])
KINDS = ((), ("block",), ("block", "key k"), ("key k",))
HALF, THIRD = (1, 2), (1, 3)
ROW, BLOCK, KEY = ("row", "a", HALF), ("block", "a", HALF), ("hash", "k", "a", HALF)
ALL, NONE, LESS = ("all",), ("none",), ("less", "n", 5)
BLOCKS_7 = ("or", tuple(("block", "a", (number, 7)) for number in range(1, 7)))
# Rows of one block whose numbers are below 5 are kept, or all its others are.
EITHER = ("or", (("and", (LESS, BLOCK)), ("and", (("not", LESS), ("not", BLOCK)))))


class TestHandWeights(Refusing):

    def told(self, plan, where, singles, pairs):
        told = judge_hand(COLUMNS, plan, where)
        self.assertEqual(told, HandWeights(singles, pairs))
        self.assertEqual((told.singles, told.pairs), (singles, pairs))
        self.assertIs(bool(told), True)
        self.assertIs(told.shows(COLUMNS, plan, where), True)

    def test_by_hand(self):
        free = {((), (), shared): (0, 1) for shared in KINDS}
        self.told(ALL, ALL, {(): (0, 1)}, free)
        self.told(ROW, ALL, {(): (2, 1)}, free)
        self.told(("row", "a", (2, 3)), ALL, {(): (3, 4)}, free)
        # two of one block: 2 (2 - 1) / (1/2)
        self.told(BLOCK, ALL, {(): (2, 1)}, {**free, ((), (), ("block",)): (4, 1), ((), (), ("block", "key k")): (4, 1)})
        # a row with 3/4; two that share one kind with 5/8, both kinds with 3/4
        self.told(("or", (BLOCK, KEY)), ALL, {(): (4, 9)}, {
            ((), (), ()): (0, 1), ((), (), ("block",)): (16, 45), ((), (), ("key k",)): (16, 45),
            ((), (), ("block", "key k")): (8, 9)})

    def test_types(self):
        self.told(("and", (LESS, BLOCK)), LESS, {(True,): (2, 1)}, {
            ((True,), (True,), shared): (4, 1) if "block" in shared else (0, 1) for shared in KINDS})
        self.told(NONE, NONE, {}, {})
        told = judge_hand(COLUMNS, ("or", (LESS, ROW)), ALL)
        self.assertEqual(told.singles, {(False,): (2, 1), (True,): (0, 1)})
        self.assertEqual(set(told.pairs), {(one, other, shared) for one, other in (
            ((False,), (False,)), ((False,), (True,)), ((True,), (True,))) for shared in KINDS})

    def test_the_mean_is_the_variance(self):
        seen = 0
        for seed in range(100):
            plans = Plans(COLUMNS, seed)
            plan, where = plans.plan(), plans.where()
            if not judge_sum(COLUMNS, plan, where):
                continue
            told = judge_hand(COLUMNS, plan, where)
            self.assertTrue(told.shows(COLUMNS, plan, where))
            seen += bool(told)
            for rows in range(5 if told else 0):
                table = plans.table(rows)
                mean = sum([fraction(chance) * fraction(hand_variance(table, plan, where, told, lot, "x"))
                            for lot, chance in law_of(table, plan).items()])
                self.assertEqual(variance(table, plan, where, "x"), pair(Fraction(mean)))
        self.assertGreater(seen, 40)

    def test_what_does_not_show(self):
        told = judge_hand(COLUMNS, BLOCK, ALL)
        triple = ((), (), ("block",))
        self.assertTrue(HandWeights(told.singles, told.pairs).shows(COLUMNS, BLOCK, ALL))
        less = {key: weight for key, weight in told.pairs.items() if key != triple}
        for singles, pairs in (({}, told.pairs), (told.singles, {}), (told.singles, less), ({(): (1, 1)}, told.pairs),
                               (told.singles, {**told.pairs, triple: (2, 1)}),
                               ({**told.singles, (True,): (2, 1)}, told.pairs),
                               (told.singles, {**told.pairs, ((), (), ("key l",)): (0, 1)})):
            self.assertIs(HandWeights(singles, pairs).shows(COLUMNS, BLOCK, ALL), False)

    def test_behind_other_plans(self):
        told = judge_hand(COLUMNS, BLOCK, ALL)
        for plan, where in ((ROW, ALL), (KEY, ALL), (BLOCK, LESS), (("block", "a", THIRD), ALL), (EITHER, ALL), (NONE, NONE)):
            self.assertIs(told.shows(COLUMNS, plan, where), False)
        self.assertTrue(told.shows(COLUMNS, ("not", ("block", "b", HALF)), ALL))


class TestNeverBoth(Refusing):

    def never(self, plan, where, one, other):
        told = judge_hand(COLUMNS, plan, where)
        self.assertIsInstance(told, NeverBoth)
        self.assertEqual((told.one, told.other), (one, other))
        self.assertIn(told.shared, KINDS)
        self.assertIs(bool(told), False)
        self.assertIs(told.shows(COLUMNS, plan, where), True)

    def test_told(self):
        self.never(EITHER, ALL, (False,), (True,))
        self.never(("or", (("and", (LESS, BLOCK, KEY)), ("and", (("not", LESS), ROW, ("not", ("or", (BLOCK, KEY))))))), ALL,
                   (False,), (True,))
        self.assertEqual(judge_hand(COLUMNS, EITHER, LESS), HandWeights(
            {(True,): (2, 1)}, {((True,), (True,), shared): (4, 1) if "block" in shared else (0, 1) for shared in KINDS}))

    def test_others_that_show(self):
        for shared in (("block",), ("block", "key k"), ["block"]):
            self.assertTrue(NeverBoth((False,), (True,), shared).shows(COLUMNS, EITHER, ALL))
            self.assertTrue(NeverBoth([True], [False], shared).shows(COLUMNS, EITHER, ALL))

    def test_what_does_not_show(self):
        for told in (NeverBoth((False,), (True,), ()), NeverBoth((False,), (True,), ("key k",)),
                     NeverBoth((False,), (False,), ("block",)), NeverBoth((True,), (True,), ("block",)),
                     NeverBoth((), (), ("block",)), NeverBoth((False,), (), ("block",)),
                     NeverBoth((False,), (True, True), ("block",)), NeverBoth((False,), (True,), ("row",)),
                     NeverBoth((False,), (True,), ("block", "key l")), NeverBoth((False,), (True,), ("key k", "block")),
                     NeverBoth((False,), (True,), ("block", "block"))):
            self.assertIs(told.shows(COLUMNS, EITHER, ALL), False)

    def test_behind_other_plans(self):
        told = NeverBoth((False,), (True,), ("block",))
        self.assertTrue(told.shows(COLUMNS, EITHER, ALL))
        for plan, where in ((BLOCK, ALL), (("or", (LESS, ROW)), ALL), (EITHER, LESS), (EITHER, ("not", LESS)), (NONE, NONE),
                            (EITHER, ("or", (("is", "n", 7), ALL)))):
            self.assertIs(told.shows(COLUMNS, plan, where), False)


class TestEvidence(Refusing):

    def test_attributes(self):
        singles, pairs = {(): (2, 1)}, {((), (), ()): (1, 1)}
        told = HandWeights(singles, pairs)
        singles.clear()
        pairs.clear()
        self.assertEqual((told.singles, told.pairs), ({(): (2, 1)}, {((), (), ()): (1, 1)}))
        told = NeverBoth([True], [False], ["block"])
        self.assertEqual((told.one, told.other, told.shared), ((True,), (False,), ("block",)))

    def test_equal(self):
        one, other = HandWeights({(): (2, 1)}, {}), NeverBoth((), (True,), ("block",))
        self.assertEqual(one, HandWeights({(): (2, 1)}, {}))
        self.assertEqual(other, NeverBoth([], [True], ["block"]))
        for told in (one, other):
            for unlike in (None, True, False, (), HandWeights({}, {}), HandWeights({(): (2, 1)}, {1: 1}),
                           NeverBoth((True,), (), ("block",)), NeverBoth((), (True,), ()), NeverBoth((), (), ("block",)),
                           NeverBoth((True,), (True,), ("block",))):
                self.assertNotEqual(told, unlike)
                self.assertNotEqual(unlike, told)

    def test_errors(self):
        table = Table(COLUMNS, [(0, (0,), (0,), (1, 1))])
        calls = [judge_hand, HandWeights({}, {}).shows, NeverBoth((), (), ()).shows,
                 lambda columns, plan, where: hand_variance(table, plan, where, None, None, "x"),
                 lambda columns, plan, where: hand_variance(table, plan, where, None, None, "z")]
        wrong, further = ("less", "t", 5), ("hash", "l", "a", HALF)
        for call in calls:
            for plan, where, part in ((wrong, further, wrong), (ROW, further, further), (ROW, BLOCK, BLOCK),
                                      (BLOCKS_7, ("not", KEY), KEY), (NONE, ("and", (ROW, wrong)), wrong)):
                self.assertEqual(self.refused(BadPlan, call, COLUMNS, plan, where).part, part)
            self.assertEqual(self.refused(TooLarge, call, COLUMNS, ("and", (BLOCKS_7, NONE)), ALL).number, 7)
            self.assertEqual(self.refused(NeverKept, call, COLUMNS, NONE, ALL).answers, ())
            self.assertEqual(self.refused(NeverKept, call, COLUMNS, ("and", (NONE, LESS)), ALL).answers, (False,))
            self.assertEqual(self.refused(NeverKept, call, COLUMNS, ("and", (("not", LESS), ROW)), ALL).answers, (True,))


class TestHandVariance(Refusing):

    def test_by_hand(self):
        rows = [(0, (1,), (), (3,)), (0, (1,), (), (4,)), (1, (2,), (), (5,))]
        table = Table(Columns(["k"], {}, ["x"]), rows)
        weights = judge_hand(table.columns, ROW, ALL)
        for lot, told in (((), 0), ((0,), 18), ((2,), 50), ((0, 1, 2), 100)):
            self.assertEqual(hand_variance(table, ROW, ALL, weights, lot, "x"), (told, 1))
        weights = judge_hand(table.columns, BLOCK, ALL)
        for lot, told in (((), 0), ((0,), 18), ((0, 1), 18 + 32 + 48), ((0, 2), 68), ((0, 1, 2), 148)):
            self.assertEqual(hand_variance(table, BLOCK, ALL, weights, lot, "x"), (told, 1))

    def test_rows_that_are_not_asked_for(self):
        table = Table(COLUMNS, [(0, (1,), (4,), (3, 1)), (0, (1,), (5,), (4, 1)), (0, (1,), (3,), (5, -1))])
        weights = judge_hand(COLUMNS, BLOCK, LESS)
        self.assertEqual(hand_variance(table, BLOCK, LESS, weights, (0, 1, 2), "x"), (18 + 50 + 60, 1))
        self.assertEqual(hand_variance(table, BLOCK, LESS, weights, (0, 1, 2), "y"), (0, 1))
        self.assertEqual(hand_variance(table, BLOCK, LESS, weights, (1,), "x"), (0, 1))

    def test_names_and_lots(self):
        table = Table(COLUMNS, [(0, (1,), (4,), (3, 1))] * 2)
        weights = judge_hand(COLUMNS, ROW, ALL)
        for lot in ([0], (1, 0), (0, 0), (2,), (-1,), (True,), None, ""):
            self.assertIs(self.refused(BadLot, hand_variance, table, ROW, ALL, weights, lot, "x").lot, lot)
            for name in ("z", "k", "n", None, ["x"]):
                told = self.refused(BadColumns, hand_variance, table, ROW, ALL, weights, lot, name)
                self.assertEqual(told.part, name)


class TestLikeliest(Refusing):

    TABLE = Table(COLUMNS, [(0, (1,), (4,), (0, 0)), (0, (1,), (5,), (0, 0)), (1, (2,), (6,), (0, 0))])

    def test_one_plan(self):
        self.assertEqual(likeliest(self.TABLE, [ROW], (0, 1)), ((0,), (1, 8)))
        self.assertEqual(likeliest(self.TABLE, (BLOCK,), (0, 1)), ((0,), (1, 4)))
        self.assertEqual(likeliest(self.TABLE, [BLOCK], (0,)), ((0,), (0, 1)))

    def test_several_plans(self):
        plans = [ROW, BLOCK, ("block", "a", THIRD), ("row", "a", THIRD)]
        self.assertEqual(likeliest(self.TABLE, plans, (0, 1)), ((1,), (1, 4)))
        self.assertEqual(likeliest(self.TABLE, plans, (0,)), ((3,), (4, 27)))
        self.assertEqual(likeliest(self.TABLE, plans, ()), ((2,), (4, 9)))
        self.assertEqual(likeliest(self.TABLE, plans, (0, 1, 2)), ((1,), (1, 4)))

    def test_several_that_are_as_likely(self):
        self.assertEqual(likeliest(self.TABLE, [ROW, BLOCK, KEY, ROW], (0, 1)), ((1, 2), (1, 4)))
        self.assertEqual(likeliest(self.TABLE, [ROW, BLOCK, KEY, ROW], (0,)), ((0, 3), (1, 8)))
        self.assertEqual(likeliest(self.TABLE, [ALL, ("row", "a", (1, 1)), ROW], (0, 1, 2)), ((0, 1), (1, 1)))

    def test_none_can_keep_it(self):
        self.assertEqual(likeliest(self.TABLE, [BLOCK, KEY, NONE], (0,)), ((0, 1, 2), (0, 1)))
        self.assertEqual(likeliest(self.TABLE, [NONE], (0,)), ((0,), (0, 1)))

    def test_by_chances(self):
        for seed in range(20):
            plans = [Plans(COLUMNS, 10 * seed + number).plan() for number in range(4)]
            told, chance = likeliest(self.TABLE, plans, (0, 2))
            chances = [fraction(chance_of(self.TABLE, plan, (0, 2))) for plan in plans]
            self.assertEqual(fraction(chance), max(chances))
            self.assertEqual(told, tuple(number for number in range(4) if chances[number] == max(chances)))

    def test_errors_plan_by_plan(self):
        wrong, other = ("less", "t", 5), ("less", "m", 5)
        wide = Table(COLUMNS, [(row, (0,), (0,), (0, 0)) for row in range(20)])
        cost = 2 ** 20 * 21
        self.assertEqual(self.refused(BadPlan, likeliest, wide, [wrong, other], None).part, wrong)
        self.assertEqual(self.refused(TooLarge, likeliest, wide, [BLOCKS_7, wrong], None).number, 7)
        self.assertEqual(self.refused(TooLarge, likeliest, wide, [BLOCK, wrong], None).number, cost)
        self.assertEqual(self.refused(BadLot, likeliest, wide, [ROW, wrong], [0]).lot, [0])
        self.assertEqual(self.refused(BadPlan, likeliest, wide, [ROW, wrong], (0,)).part, wrong)
        self.assertEqual(self.refused(TooLarge, likeliest, wide, [ROW, BLOCK, wrong], (0,)).number, cost)
        self.assertEqual(self.refused(BadLot, likeliest, wide, [ROW], (20,)).lot, (20,))


if __name__ == "__main__":
    unittest.main()
