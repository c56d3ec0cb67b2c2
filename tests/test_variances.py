import unittest
from fractions import Fraction

from evensieve.errors import BadColumns, BadPlan, NeverKept, TooLarge
from evensieve.laws import law_of
from evensieve.sums import estimate, judge_sum
from evensieve.tables import Columns, Table
from evensieve.variances import (ErrAlike, ErrUnlike, coefficients, group_parts, judge_errors, variance,
                                 variance_by_groups)
from tests.oracles import Plans, Refusing, brute_variance, pair

COLUMNS = Columns(["k"], {"n": "number"}, ["x", "y"])
KINDS = ((), ("block",), ("block", "key k"), ("key k",))
HALF, THIRD = (1, 2), (1, 3)
ROW, BLOCK, KEY = ("row", "a", HALF), ("block", "a", HALF), ("hash", "k", "a", HALF)
ALL, NONE, LESS = ("all",), ("none",), ("less", "n", 5)
BLOCKS_7 = ("or", tuple(("block", "a", (number, 7)) for number in range(1, 7)))
PLAIN = Columns(["k"], {}, ["x"])
TABLE = Table(PLAIN, [(0, (1,), (), (3,)), (0, (1,), (), (4,)), (1, (2,), (), (5,))])


class Errs(Refusing):

    def check_errors(self, call):
        """The errors of what takes columns, a plan and a where."""
        wrong, further = ("less", "t", 5), ("hash", "l", "a", HALF)
        for plan, where, part in ((wrong, further, wrong), (ROW, further, further), (ROW, BLOCK, BLOCK), (wrong, ROW, wrong),
                                  (BLOCKS_7, ("not", KEY), KEY), (NONE, ("and", (ROW, wrong)), wrong)):
            self.assertEqual(self.refused(BadPlan, call, COLUMNS, plan, where).part, part)
        self.assertEqual(self.refused(TooLarge, call, COLUMNS, BLOCKS_7, ALL).number, 7)
        self.assertEqual(self.refused(TooLarge, call, COLUMNS, ("and", (BLOCKS_7, NONE)), LESS).number, 7)
        self.assertEqual(self.refused(NeverKept, call, COLUMNS, NONE, ALL).answers, ())
        self.assertEqual(self.refused(NeverKept, call, COLUMNS, NONE, LESS).answers, (True,))
        self.assertEqual(self.refused(NeverKept, call, COLUMNS, ("and", (NONE, LESS)), ALL).answers, (False,))
        self.assertEqual(self.refused(NeverKept, call, COLUMNS, ("and", (LESS, ROW)), ALL).answers, (False,))
        self.assertEqual(self.refused(NeverKept, call, COLUMNS, ("and", (("not", LESS), ROW)), ALL).answers, (True,))
        self.assertEqual(self.refused(NeverKept, call, COLUMNS, ("is", "n", 3), ("not", ("is", "n", 3))).answers, (False,))

    def check_names(self, call):
        """The errors of what takes a table, a plan, a where and the name of a column of sums."""
        table = Table(COLUMNS, [(0, (0,), (0,), (1, 1))])
        self.check_errors(lambda columns, plan, where: call(table, plan, where, "x"))
        self.check_errors(lambda columns, plan, where: call(table, plan, where, "z"))
        for name in ("z", "k", "n", "", None, 5, ["x"], ("x",)):
            self.assertEqual(self.refused(BadColumns, call, table, ROW, ALL, name).part, name)


class TestCoefficients(Errs):

    def told(self, plan, by_shared, columns=COLUMNS):
        told = coefficients(columns, plan, ALL)
        self.assertEqual(told, {((), (), shared): chance for shared, chance in by_shared.items()})

    def test_rows(self):
        self.told(ROW, dict.fromkeys(KINDS, (1, 1)))
        self.told(ALL, dict.fromkeys(KINDS, (1, 1)))

    def test_blocks(self):
        self.told(BLOCK, {(): (1, 1), ("block",): (2, 1), ("key k",): (1, 1), ("block", "key k"): (2, 1)})
        self.told(("block", "a", (2, 3)), {(): (1, 1), ("block",): (3, 2), ("key k",): (1, 1), ("block", "key k"): (3, 2)})

    def test_keys(self):
        self.told(("hash", "k", "a", THIRD), {(): (1, 1), ("block",): (1, 1), ("key k",): (3, 1), ("block", "key k"): (3, 1)})

    def test_mixed(self):
        self.told(("and", (BLOCK, ("hash", "k", "a", THIRD), ROW)),
                  {(): (1, 1), ("block",): (2, 1), ("key k",): (3, 1), ("block", "key k"): (6, 1)})
        # a row is kept with the chance 3/4; two of one block with 1/2 + 1/8, all shared with 3/4
        self.told(("or", (BLOCK, KEY)), {(): (1, 1), ("block",): (10, 9), ("key k",): (10, 9), ("block", "key k"): (4, 3)})
        self.told(("or", (BLOCK, ROW)), {(): (1, 1), ("block",): (10, 9), ("key k",): (1, 1), ("block", "key k"): (10, 9)})

    def test_all_kinds_of_the_columns(self):
        self.told(BLOCK, {(): (1, 1), ("block",): (2, 1)}, Columns([], {}, []))
        columns = Columns(["l", "k"], {}, [])
        told = coefficients(columns, ("hash", "l", "a", HALF), ALL)
        self.assertEqual(len(told), 8)
        for (_, _, shared), chance in told.items():
            self.assertEqual(shared, tuple(sorted(shared)))
            self.assertEqual(chance, (2, 1) if "key l" in shared else (1, 1))

    def test_types_in_order(self):
        plan = ("or", (("and", (LESS, BLOCK)), ("and", (("not", LESS), ("block", "a", THIRD)))))
        told = coefficients(COLUMNS, plan, ALL)
        self.assertEqual(set(told), {(one, other, shared) for one, other in (
            ((False,), (False,)), ((False,), (True,)), ((True,), (True,))) for shared in KINDS})
        self.assertEqual([told[((False,), (False,), shared)] for shared in KINDS], [(1, 1), (3, 1), (3, 1), (1, 1)])
        self.assertEqual([told[((False,), (True,), shared)] for shared in KINDS], [(1, 1), (2, 1), (2, 1), (1, 1)])
        self.assertEqual([told[((True,), (True,), shared)] for shared in KINDS], [(1, 1), (2, 1), (2, 1), (1, 1)])

    def test_two_that_are_never_both_kept(self):
        plan = ("or", (("and", (LESS, BLOCK)), ("and", (("not", LESS), ("not", BLOCK)))))
        told = coefficients(COLUMNS, plan, ALL)
        self.assertEqual(told[((False,), (True,), ("block",))], (0, 1))
        self.assertEqual(told[((False,), (True,), ("key k",))], (1, 1))

    def test_types_that_are_asked_for_alone(self):
        self.assertEqual(set(coefficients(COLUMNS, BLOCK, LESS)), {((True,), (True,), shared) for shared in KINDS})
        self.assertEqual(coefficients(COLUMNS, NONE, NONE), {})
        self.assertEqual(len(coefficients(COLUMNS, ("or", (LESS, ROW)), ("or", (LESS, ("is", "n", 7))))), 3 * 4)

    def test_by_laws(self):
        for seed in range(60):
            plans = Plans(COLUMNS, seed)
            plan, where = plans.plan(), plans.where()
            if not judge_sum(COLUMNS, plan, where):
                self.assertRaises(NeverKept, coefficients, COLUMNS, plan, where)
                continue
            told = coefficients(COLUMNS, plan, where)
            self.assertTrue(all(one <= other for one, other, _ in told))
            for (one, other, _), chance in told.items():
                self.assertEqual(told[(one, other, ())], (1, 1))
                self.assertGreaterEqual(chance[0], 0)

    def test_each_dict_is_new(self):
        coefficients(COLUMNS, BLOCK, ALL).clear()
        self.assertEqual(len(coefficients(COLUMNS, BLOCK, ALL)), 4)

    def test_errors(self):
        self.check_errors(coefficients)


class TestVariance(Errs):

    def test_example(self):
        columns = Columns(["k"], {}, ["x"])
        table = Table(columns, [(0, (1,), (), (3,)), (0, (1,), (), (4,)), (1, (2,), (), (5,))])
        by_rows, by_keys = ("row", "a", (1, 2)), ("hash", "k", "a", (1, 2))
        self.assertEqual(judge_sum(columns, by_rows, ("all",)).weights, {(): (2, 1)})
        self.assertEqual([variance(table, plan, ("all",), "x") for plan in (by_rows, by_keys)], [(50, 1), (74, 1)])

    def test_by_hand(self):
        for told in (variance, variance_by_groups):
            self.assertEqual(told(TABLE, ALL, ALL, "x"), (0, 1))
            self.assertEqual(told(TABLE, BLOCK, ALL, "x"), (74, 1))
            self.assertEqual(told(TABLE, ("row", "a", (2, 3)), ALL, "x"), (25, 1))
            self.assertEqual(told(TABLE, ("row", "a", (1, 1)), ALL, "x"), (0, 1))
            self.assertEqual(told(TABLE, ("and", (BLOCK, ROW)), ALL, "x"), (3 * 50 + 2 * 12, 1))
            self.assertEqual(told(TABLE, NONE, NONE, "x"), (0, 1))
            self.assertEqual(told(Table(PLAIN, []), ROW, ALL, "x"), (0, 1))

    def test_signs_count(self):
        table = Table(PLAIN, [(0, (1,), (), (3,)), (0, (2,), (), (-3,))])
        for told in (variance, variance_by_groups):
            self.assertEqual(told(table, BLOCK, ALL, "x"), (0, 1))
            self.assertEqual(told(table, KEY, ALL, "x"), (18, 1))

    def test_rows_that_are_asked_for_alone(self):
        table = Table(COLUMNS, [(0, (1,), (4,), (3, 1)), (0, (1,), (5,), (4, 1)), (0, (2,), (3,), (5, 1))])
        for told in (variance, variance_by_groups):
            self.assertEqual(told(table, ROW, LESS, "x"), (34, 1))
            self.assertEqual(told(table, BLOCK, LESS, "x"), (64, 1))
            self.assertEqual(told(table, BLOCK, LESS, "y"), (4, 1))
            self.assertEqual(told(table, ("and", (LESS, ROW)), LESS, "x"), (34, 1))
            self.assertEqual(told(table, ("or", (LESS, ROW)), ALL, "x"), (16, 1))

    def test_it_is_the_variance_of_the_estimate(self):
        seen = 0
        for seed in range(80):
            plans = Plans(COLUMNS, seed)
            plan, where = plans.plan(), plans.where()
            weights = judge_sum(COLUMNS, plan, where)
            if not weights:
                continue
            for rows in range(5):
                table = plans.table(rows)
                told = brute_variance(law_of(table, plan), lambda lot: estimate(table, plan, where, weights, lot, "x"))
                self.assertEqual(variance(table, plan, where, "x"), pair(Fraction(told)))
                self.assertEqual(variance_by_groups(table, plan, where, "x"), pair(Fraction(told)))
                seen += 1
        self.assertGreater(seen, 100)

    def test_many_rows(self):
        for seed in range(20):
            plans = Plans(COLUMNS, seed)
            plan = ("or", (("row", "c", HALF), plans.plan()))
            table = plans.table(40, blocks=6, keys=7)
            for where in (ALL, plans.where()):
                self.assertEqual(variance(table, plan, where, "y"), variance_by_groups(table, plan, where, "y"))

    def test_errors(self):
        self.check_names(variance)
        self.check_names(variance_by_groups)


class TestGroupParts(Errs):

    def test_by_hand(self):
        told = group_parts(COLUMNS, ("or", (BLOCK, KEY)), ALL)
        self.assertEqual(told, {((), (), ()): (1, 1), ((), (), ("block",)): (1, 9), ((), (), ("key k",)): (1, 9),
                                ((), (), ("block", "key k")): (1, 9)})
        told = group_parts(COLUMNS, ("and", (BLOCK, ("hash", "k", "a", THIRD))), ALL)
        self.assertEqual(told, {((), (), ()): (1, 1), ((), (), ("block",)): (1, 1), ((), (), ("key k",)): (2, 1),
                                ((), (), ("block", "key k")): (2, 1)})
        self.assertEqual(group_parts(COLUMNS, ROW, ALL), {((), (), kinds): (int(not kinds), 1) for kinds in KINDS})

    def test_all_triples(self):
        plan = ("or", (("and", (LESS, BLOCK)), ("and", (("not", LESS), ("block", "a", THIRD)))))
        told = group_parts(COLUMNS, plan, ALL)
        types = ((False,), (True,))
        self.assertEqual(set(told), {(one, other, kinds) for one in types for other in types for kinds in KINDS})
        for one in types:
            for other in types:
                for kinds in KINDS:
                    self.assertEqual(told[(one, other, kinds)], told[(other, one, kinds)])
        self.assertEqual([told[((False,), (True,), kinds)] for kinds in KINDS], [(1, 1), (1, 1), (0, 1), (0, 1)])
        self.assertEqual([told[((False,), (False,), kinds)] for kinds in KINDS], [(1, 1), (2, 1), (0, 1), (0, 1)])

    def test_types_that_are_asked_for_alone(self):
        self.assertEqual(set(group_parts(COLUMNS, BLOCK, LESS)), {((True,), (True,), kinds) for kinds in KINDS})
        self.assertEqual(group_parts(COLUMNS, NONE, NONE), {})

    def test_coefficients_are_sums_of_parts(self):
        columns = Columns(["k", "l"], {"n": "number"}, [])
        for seed in range(30):
            plan = ("or", (("row", "c", HALF), Plans(columns, seed).plan()))
            parts = group_parts(columns, plan, ALL)
            for (one, other, shared), chance in coefficients(columns, plan, ALL).items():
                told = sum([Fraction(*part) for (first, second, kinds), part in parts.items()
                            if (first, second) == (one, other) and set(kinds) <= set(shared)])
                self.assertEqual(pair(told), chance)

    def test_errors(self):
        self.check_errors(group_parts)


class TestErrAlike(Errs):

    def alike(self, one, other, where=ALL):
        told = judge_errors(COLUMNS, one, other, where)
        self.assertIsInstance(told, ErrAlike)
        self.assertIs(bool(told), True)
        self.assertIs(told.shows(COLUMNS, one, other, where), True)
        self.assertIs(told.shows(COLUMNS, other, one, where), True)
        self.assertEqual(told, judge_errors(COLUMNS, other, one, where))
        return told

    def test_plans_that_are_written_otherwise(self):
        told = self.alike(("and", (ROW, ("row", "b", HALF))), ("row", "a", (1, 4)))
        self.assertEqual(told.singles, {(): (4, 1)})
        self.assertEqual(told.pairs, {((), (), shared): (1, 1) for shared in KINDS})
        told = self.alike(BLOCK, ("not", ("block", "b", HALF)))
        self.assertEqual(told.pairs, coefficients(COLUMNS, BLOCK, ALL))
        self.alike(("and", (BLOCK, KEY)), ("and", (("hash", "k", "b", HALF), ("block", "b", HALF))))

    def test_asks_that_tell_nothing(self):
        told = self.alike(("and", (ROW, ("or", (LESS, ("not", LESS))))), ROW)
        self.assertEqual(told.singles, {(False,): (2, 1), (True,): (2, 1)})
        self.assertEqual(len(told.pairs), 3 * 4)

    def test_plans_that_differ_where_nothing_is_asked_for(self):
        told = self.alike(("and", (ROW, LESS)), ROW, LESS)
        self.assertEqual(told.singles, {(True,): (2, 1)})
        self.assertEqual(told.pairs, {((True,), (True,), shared): (1, 1) for shared in KINDS})
        told = self.alike(ROW, BLOCK, NONE)
        self.assertEqual((told.singles, told.pairs), ({}, {}))

    def test_plans_that_are_not_one_and_err_alike(self):
        # Three rows of a block are kept by other chances, but two are not.
        one = ("or", (("and", (("block", "a", HALF), ("row", "a", (3, 4)))), ("and", (("not", ("block", "a", HALF)),
                                                                                      ("row", "a", (1, 4))))))
        other = ("or", (("and", (("block", "a", (1, 5)), ("row", "a", (1, 1)))),
                        ("and", (("not", ("block", "a", (1, 5))), ("row", "a", (3, 8))))))
        told = self.alike(one, other)
        self.assertEqual(told.singles, {(): (2, 1)})
        self.assertEqual(told.pairs[((), (), ("block",))], (5, 4))

    def test_what_does_not_show(self):
        one, other = ("and", (BLOCK, LESS)), ("and", (LESS, ("block", "b", HALF)))
        told = judge_errors(COLUMNS, one, other, LESS)
        triple = ((True,), (True,), ("block",))
        self.assertTrue(ErrAlike(told.singles, told.pairs).shows(COLUMNS, one, other, LESS))
        less = {key: chance for key, chance in told.pairs.items() if key != triple}
        for singles, pairs in ((told.singles, {}), ({}, told.pairs), (told.singles, less), ({(True,): (1, 1)}, told.pairs),
                               (told.singles, {**told.pairs, triple: (1, 1)}), ({**told.singles, (): (1, 1)}, told.pairs),
                               ({**told.singles, (False,): (2, 1)}, told.pairs),
                               (told.singles, {**told.pairs, ((), (), ()): (1, 1)}),
                               (told.singles, {**told.pairs, ((True,), (True,), ("key l",)): (1, 1)})):
            self.assertIs(ErrAlike(singles, pairs).shows(COLUMNS, one, other, LESS), False)

    def test_behind_other_plans(self):
        told = judge_errors(COLUMNS, BLOCK, BLOCK, ALL)
        for one, other, where in ((BLOCK, ROW, ALL), (ROW, BLOCK, ALL), (ROW, ROW, ALL), (KEY, KEY, ALL), (BLOCK, BLOCK, LESS),
                                  (BLOCK, ("and", (BLOCK, ROW)), ALL)):
            self.assertIs(told.shows(COLUMNS, one, other, where), False)

    def test_columns_without_sums(self):
        columns = Columns(["k"], {"n": "number"}, [])
        told = judge_errors(COLUMNS, BLOCK, BLOCK, ALL)
        self.assertIs(told.shows(columns, BLOCK, BLOCK, ALL), True)


class TestErrUnlike(Errs):

    def unlike(self, one, other, where=ALL, columns=COLUMNS, rows=None):
        told = judge_errors(columns, one, other, where)
        self.assertIsInstance(told, ErrUnlike)
        self.assertIs(bool(told), False)
        self.assertIs(told.shows(columns, one, other, where), True)
        self.assertIs(told.shows(columns, other, one, where), True)
        self.assertEqual(told.table.columns, columns)
        self.assertLessEqual(len(told.table), 2)
        if rows:
            self.assertEqual(len(told.table), rows)
        self.assertIn(told.name, columns.summed)
        self.assertNotEqual(*[variance(told.table, plan, where, told.name) for plan in (one, other)])

    def test_other_chances_of_a_row(self):
        self.unlike(ROW, ("row", "a", THIRD), rows=1)
        self.unlike(ALL, ROW)
        self.unlike(("or", (LESS, ROW)), ROW, rows=1)
        self.unlike(("or", (LESS, ROW)), ROW, LESS)

    def test_other_chances_of_two_rows(self):
        self.unlike(ROW, BLOCK, rows=2)
        self.unlike(BLOCK, KEY, rows=2)
        self.unlike(("and", (BLOCK, ("row", "b", HALF))), ("and", (ROW, ("row", "b", HALF))), rows=2)
        self.unlike(("or", (BLOCK, KEY)), ("or", (ROW, KEY)), rows=2)
        self.unlike(("and", (LESS, BLOCK)), ("and", (LESS, KEY)), LESS, rows=2)

    def test_two_types_that_are_kept_together_or_not(self):
        one = ("or", (("and", (LESS, BLOCK)), ("and", (("not", LESS), ("not", BLOCK)))))
        self.unlike(one, BLOCK, rows=2)

    def test_two_kinds_that_must_both_be_shared(self):
        # Two rows of one block, or of one key, are both kept as often as by rows alone.
        both = ("or", (("and", (BLOCK, KEY)), ("and", (("not", BLOCK), ("not", KEY)))))
        self.unlike(both, ROW, rows=2)

    def test_each_plan_is_one_or_the_other(self):
        seen = {True: 0, False: 0}
        for seed in range(150):
            plans = Plans(COLUMNS, seed, chances=((1, 2),))
            one, other, where = plans.plan(2), plans.plan(2), plans.where()
            if judge_sum(COLUMNS, one, where) and judge_sum(COLUMNS, other, where):
                told = judge_errors(COLUMNS, one, other, where)
                self.assertTrue(told.shows(COLUMNS, one, other, where))
                seen[bool(told)] += 1
                if told:
                    table = plans.table(6)
                    self.assertEqual(variance(table, one, where, "x"), variance(table, other, where, "x"))
                else:
                    self.unlike(one, other, where)
        self.assertGreater(min(seen.values()), 5)

    def test_others_that_show(self):
        row = (7, (9,), (3,), (4, 0))
        self.assertTrue(ErrUnlike(Table(COLUMNS, [row, row]), "x").shows(COLUMNS, ROW, BLOCK, ALL))
        self.assertTrue(ErrUnlike(Table(COLUMNS, [row]), "x").shows(COLUMNS, ROW, ("row", "a", THIRD), ALL))

    def test_what_does_not_show(self):
        row, further = (7, (9,), (3,), (4, 0)), (8, (9,), (3,), (4, 0))
        table = Table(COLUMNS, [row, row])
        for told in (ErrUnlike(table, "y"), ErrUnlike(table, "z"), ErrUnlike(table, "k"), ErrUnlike(table, "n"),
                     ErrUnlike(Table(COLUMNS, [row]), "x"), ErrUnlike(Table(COLUMNS, [row, further]), "x"),
                     ErrUnlike(Table(COLUMNS, [row, row, row]), "x"), ErrUnlike(Table(COLUMNS, []), "x"),
                     ErrUnlike(Table(PLAIN, [(7, (9,), (), (4,))] * 2), "x"),
                     ErrUnlike(Table(Columns(["k"], {"n": "number"}, ["x"]), [(7, (9,), (3,), (4,))] * 2), "x")):
            self.assertIs(told.shows(COLUMNS, ROW, BLOCK, ALL), False)
        self.assertIs(ErrUnlike(table, "x").shows(COLUMNS, ROW, ROW, ALL), False)
        self.assertIs(ErrUnlike(table, "x").shows(COLUMNS, ROW, BLOCK, ("not", LESS)), False)
        self.assertIs(ErrUnlike(table, "x").shows(Columns(["k"], {"n": "number"}, []), ROW, BLOCK, ALL), False)


class TestJudgeErrors(Errs):

    TOLD = (ErrAlike({}, {}), ErrUnlike(Table(COLUMNS, []), "x"))

    def test_errors_in_their_order(self):
        wrong, further, last = ("less", "t", 5), ("hash", "l", "a", HALF), ("is", "n", "a")
        for call in [judge_errors] + [told.shows for told in self.TOLD]:
            for plans, part in (((wrong, further, last), wrong), ((ROW, further, last), further), ((ROW, BLOCKS_7, last), last),
                                ((ROW, wrong, BLOCK), wrong), ((BLOCKS_7, NONE, BLOCK), BLOCK),
                                ((NONE, ROW, ("and", (KEY, last))), last)):
                self.assertEqual(self.refused(BadPlan, call, COLUMNS, *plans).part, part)
            self.assertEqual(self.refused(TooLarge, call, COLUMNS, NONE, BLOCKS_7, ALL).number, 7)
            halves = [("or", tuple(("block", "a", (number, 7)) for number in numbers)) for numbers in ((1, 2, 3), (4, 5, 6))]
            self.assertEqual(self.refused(TooLarge, call, COLUMNS, *halves, ALL).number, 7)
            self.assertEqual(self.refused(NeverKept, call, COLUMNS, NONE, ("and", (NONE, LESS)), ALL).answers, (False,))
            self.assertEqual(self.refused(NeverKept, call, COLUMNS, ROW, ("and", (ROW, LESS)), ALL).answers, (False,))
            one, other = ("and", (ROW, ("not", LESS))), ("and", (ROW, LESS))
            self.assertEqual(self.refused(NeverKept, call, COLUMNS, one, other, ALL).answers, (True,))
            self.assertEqual(self.refused(NeverKept, call, COLUMNS, other, one, ALL).answers, (False,))
            asks = ("or", (("is", "n", 7), ("not", ("is", "n", 7))))
            self.assertEqual(self.refused(NeverKept, call, COLUMNS, one, ROW, asks).answers, (False, True))

    def test_columns_without_sums(self):
        columns = Columns(["k"], {"n": "number"}, [])
        for one, other in ((ROW, ROW), (ROW, BLOCK)):
            self.assertEqual(self.refused(BadColumns, judge_errors, columns, one, other, ALL).part, "summed")
            for told in self.TOLD:
                self.assertIs(told.shows(columns, one, other, ALL), False)
        self.refused(NeverKept, judge_errors, columns, ROW, NONE, ALL)
        self.refused(TooLarge, judge_errors, columns, ROW, BLOCKS_7, ALL)
        for told in self.TOLD:
            self.refused(NeverKept, told.shows, columns, ROW, NONE, ALL)

    def test_attributes(self):
        singles, pairs = {(): (2, 1)}, {((), (), ()): (1, 1)}
        told = ErrAlike(singles, pairs)
        self.assertEqual((told.singles, told.pairs), (singles, pairs))
        singles.clear()
        pairs.clear()
        self.assertEqual((told.singles, told.pairs), ({(): (2, 1)}, {((), (), ()): (1, 1)}))
        told = ErrUnlike(TABLE, "x")
        self.assertEqual((told.table, told.name), (TABLE, "x"))

    def test_equal(self):
        one, other = ErrAlike({(): (2, 1)}, {}), ErrUnlike(TABLE, "x")
        self.assertEqual(one, ErrAlike({(): (2, 1)}, {}))
        self.assertEqual(other, ErrUnlike(Table(PLAIN, TABLE.rows), "x"))
        for told in (one, other):
            for unlike in (None, False, True, 0, (), ErrAlike({}, {}), ErrAlike({(): (2, 1)}, {1: 1}), ErrUnlike(TABLE, "y"),
                           ErrUnlike(Table(PLAIN, []), "x"), ({(): (2, 1)}, {})):
                self.assertNotEqual(told, unlike)
                self.assertNotEqual(unlike, told)


if __name__ == "__main__":
    unittest.main()
