"""The document as a whole: its examples as they stand, and promises that reach over several modules."""

import builtins
import copy
import doctest
import itertools
import unittest
from pathlib import Path

from evensieve.apart import Apart, all_kept, table_apart
from evensieve.errors import BadPlan, TooLarge
from evensieve.joins import judge_join, join_chance, shows_join
from evensieve.joinsums import (JoinUnseen, JoinWeights, join_estimate, join_variance, judge_join_sum, true_join_sum)
from evensieve.kernels import Kernel
from evensieve.keysums import KeysAstray, KeysTold
from evensieve.laws import chance_all, chance_none, law_of
from evensieve.measures import measures
from evensieve.natural import judge_joined, shows_joined
from evensieve.nested import Outside, Within, judge_within
from evensieve.offers import Cheapest, cheapest_same, reading
from evensieve.onhand import HandWeights, NeverBoth, likeliest
from evensieve.pushes import Pushed, cheapest_push, pushes
from evensieve.same import Same, Unlike, classes_of, judge_pair, judge_same
from evensieve.sieving import drawn, sieve
from evensieve.sums import Unseen, Weights, judge_sum
from evensieve.tables import Columns, Table
from evensieve.variances import ErrAlike, ErrUnlike, judge_errors
from tests.oracles import Plans, Refusing, fraction, pair

DOCUMENT = Path(__file__).resolve().parent.parent.parent / "shared" / "DOC.md"
EXAMPLES = r"""
>>> from evensieve.laws import chance_all
>>> from evensieve.tables import Columns, Table
>>> table = Table(Columns([], {}, []), [(0, (), (), ()), (0, (), (), ())])
>>> twice = ("and", (("row", "a", (1, 2)), ("row", "b", (1, 2))))
>>> blocks = ("and", (("block", "a", (1, 2)), ("row", "b", (1, 2))))
>>> [chance_all(table, plan, (0,)) for plan in (twice, blocks)], [chance_all(table, plan, (0, 1)) for plan in (twice, blocks)]
([(1, 4), (1, 4)], [(1, 16), (1, 8)])

>>> from evensieve.asks import types_of
>>> from evensieve.tables import Columns
>>> columns = Columns([], {"name": "text"}, [])
>>> plan = ("or", (("like", "name", "a*"), ("like", "name", "*a"), ("is", "name", "b")))
>>> [answers for answers, values in types_of(columns, [plan])]
[(False, False, False), (False, False, True), (False, True, False), (False, True, True), (True, False, False)]

>>> from evensieve.same import judge_same
>>> from evensieve.tables import Columns
>>> columns = Columns(("k",), {}, ())
>>> half, quarter = (1, 2), (1, 4)
>>> twice = ("and", (("row", "s", half), ("row", "r", half)))
>>> bool(judge_same(columns, twice, ("row", "s", quarter)))
True
>>> both = ("and", (("block", "s", half), ("row", "r", half)))
>>> bool(judge_same(columns, both, twice)), judge_same(columns, both, twice).shows(columns, both, twice)
(False, True)

>>> from evensieve.natural import judge_joined
>>> from evensieve.pushes import cheapest_push, pushes
>>> from evensieve.tables import Columns, Table
>>> columns = [Columns(("k",), {}, ()), Columns(("k", "l"), {}, ()), Columns(("l",), {}, ())]
>>> key = ("hash", "k", "s", (1, 2))
>>> plans = (key, ("all",), ("row", "s", (1, 3)))
>>> pushes(columns, plans)[1] == (("all",), key, ("row", "s", (1, 3)))
True
>>> bool(judge_joined(columns, plans, pushes(columns, plans)[1])), bool(judge_joined(columns, plans, (key, ("row", "s", (1, 3)), ("all",))))
(True, False)
>>> small, large = Table(columns[0], [(0, (1,), (), ())]), Table(columns[1], [(at, (1, at), (), ()) for at in range(4)])
>>> cheapest_push(columns, plans, [small, large, Table(columns[2], [])], [(1, 0), (1, 0), (1, 0)]).costs
((9, 2), (3, 1))

>>> from evensieve.joinsums import join_variance, judge_join_sum, true_join_sum
>>> from evensieve.tables import Columns, Table
>>> columns, every = Columns(("k",), {}, ("x",)), ("all",)
>>> tables = (Table(columns, [(0, (1,), (), (3,)), (0, (2,), (), (4,))]), Table(columns, [(0, (1,), (), (5,))]))
>>> key, row = ("hash", "k", "s", (1, 2)), ("row", "s", (1, 2))
>>> true_join_sum(tables, "k", (every, every), ("x", "x")), judge_join_sum(columns, columns, "k", (key, key), (every, every)).weights
(15, {((), ()): (2, 1)})
>>> [join_variance(tables, "k", pair, (every, every), ("x", "x")) for pair in ((key, key), (row, row))]
[(225, 1), (675, 1)]

>>> from evensieve.sums import judge_sum
>>> from evensieve.tables import Columns, Table
>>> from evensieve.variances import variance
>>> columns = Columns(["k"], {}, ["x"])
>>> table = Table(columns, [(0, (1,), (), (3,)), (0, (1,), (), (4,)), (1, (2,), (), (5,))])
>>> by_rows, by_keys = ("row", "a", (1, 2)), ("hash", "k", "a", (1, 2))
>>> judge_sum(columns, by_rows, ("all",)).weights, [variance(table, plan, ("all",), "x") for plan in (by_rows, by_keys)]
({(): (2, 1)}, [(50, 1), (74, 1)])
"""
HALF, THIRD, QUARTER = (1, 2), (1, 3), (1, 4)
NOUGHT, ONE = (0, 1), (1, 1)
COLUMNS = Columns(["k"], {"n": "number"}, ["x"])
PLAIN = Columns(["k"], {}, [])
ROW, BLOCK, KEY = ("row", "a", HALF), ("block", "a", HALF), ("hash", "k", "a", HALF)
ALL, LESS = ("all",), ("less", "n", 1)


def small_pairs(columns, seeds, chances=(HALF, QUARTER)):
    """Random pairs of plans that are small together."""
    for seed in range(seeds):
        plans = Plans(columns, seed, chances)
        one, other = plans.plan(2), plans.plan(2)
        if seed % 3 == 0:
            other = ("or", (("and", (one, other)), ("and", (one, ("not", other)))))
        if max(measures(columns, (one, other))[:2]) <= 6:
            yield plans, one, other


def without_rows(plan):
    """The plan with blocks in place of rows."""
    if plan[0] == "row":
        return ("block",) + plan[1:]
    if plan[0] == "not":
        return ("not", without_rows(plan[1]))
    if plan[0] in ("and", "or"):
        return (plan[0], tuple(without_rows(formula) for formula in plan[1]))
    return plan


class TestExamples(unittest.TestCase):

    def run_examples(self, text, name):
        test = doctest.DocTestParser().get_doctest(text, {}, name, name, 0)
        self.assertGreater(len(test.examples), 30)
        result = doctest.DocTestRunner(verbose=False).run(test)
        # what was shown last is kept there
        vars(builtins).pop("_", None)
        self.assertEqual(result.failed, 0)

    def test_as_they_stand(self):
        self.run_examples(EXAMPLES, "examples")

    def test_of_the_document_itself(self):
        if not DOCUMENT.exists():
            self.skipTest("the document is not there")
        parts = DOCUMENT.read_text().split("```\n")
        self.run_examples("\n".join(parts[1::2]), "document")


class TestTheMainPromise(unittest.TestCase):

    def tables(self, columns, rows):
        """All tables of so many rows with two blocks, two keys and two values at most, up to the order of rows."""
        cells = [(block, keys, values, (1,) * len(columns.summed)) for block in (0, 1)
                 for keys in itertools.product((0, 1), repeat=len(columns.hashed))
                 for values in itertools.product((0, 1), repeat=len(columns.asked))]
        for told in itertools.combinations_with_replacement(cells, rows):
            yield Table(columns, told)

    def test_one_law_on_every_table_or_an_array(self):
        seen = [0, 0]
        for _, one, other in small_pairs(PLAIN, 60):
            told = judge_same(PLAIN, one, other)
            self.assertTrue(told.shows(PLAIN, one, other))
            laws = [law_of(table, one) == law_of(table, other) for rows in (1, 2, 3) for table in self.tables(PLAIN,
                                                                                                              rows)]
            self.assertEqual(bool(told), all(laws))
            seen[bool(told)] += 1
        self.assertGreater(min(seen), 10)

    def test_never_both(self):
        for _, one, other in small_pairs(COLUMNS, 60):
            told = judge_same(COLUMNS, one, other)
            further = judge_same(COLUMNS, other, one)
            self.assertEqual(bool(told), bool(further))
            if told:
                turned = {kind: tuple(row.index(at) for at in range(len(row))) for kind, row in told.maps.items()}
                self.assertTrue(Same(turned).shows(COLUMNS, other, one))
            else:
                self.assertTrue(Unlike(1 - told.which, told.chosen, told.chances[::-1]).shows(COLUMNS, other, one))

    def test_small_tables_and_judging(self):
        found = 0
        for _, one, other in small_pairs(PLAIN, 80):
            told = table_apart(PLAIN, one, other, 2)
            if told is not None:
                self.assertFalse(judge_same(PLAIN, one, other))
                found += 1
            if judge_same(PLAIN, one, other):
                self.assertIsNone(told)
        self.assertGreater(found, 20)

    def test_alike_plans_have_alike_sums(self):
        columns = Columns(["k"], {}, ["x"])
        for plans, one, other in small_pairs(columns, 60):
            if judge_same(columns, one, other) and judge_sum(columns, one, ALL):
                self.assertEqual(judge_sum(columns, one, ALL), judge_sum(columns, other, ALL))
                self.assertTrue(judge_errors(columns, one, other, ALL))
                table = plans.table(3)
                self.assertEqual(reading(columns, one, table), reading(columns, other, table))
                for lot in law_of(table, one):
                    self.assertEqual(likeliest(table, [one, other], lot)[0], (0, 1))

    def test_classes_are_classes(self):
        plans = [one for _, one, _ in small_pairs(PLAIN, 12)][:6]
        told = classes_of(PLAIN, plans)
        for at, place in enumerate(told):
            self.assertEqual(told[place], place)
            self.assertTrue(judge_same(PLAIN, plans[place], plans[at]))


class TestLawsAndTables(unittest.TestCase):

    def test_all_kept_is_a_chance_of_the_law(self):
        for plans, one, other in small_pairs(COLUMNS, 60):
            table = plans.table(3)
            for at, plan in enumerate((one, other)):
                told = all_kept(COLUMNS, (one, other), at, table)
                self.assertEqual(told, chance_all(table, plan, (0, 1, 2)))
                self.assertEqual(told, law_of(table, plan).get((0, 1, 2), NOUGHT))

    def test_a_block_must_be_read_if_a_row_is_kept(self):
        for seed in range(60):
            plans = Plans(COLUMNS, seed)
            plan, table = without_rows(plans.plan(2)), plans.table(4, blocks=3)
            lots = [tuple(row for row in range(4) if table.rows[row][0] == block) for block in table.entities("block")]
            chances = [1 - fraction(chance_none(table, plan, lot)) for lot in lots]
            self.assertEqual(reading(COLUMNS, plan, table), (pair(sum(chances)), pair(sum(
                chance * len(lot) for chance, lot in zip(chances, lots)))))

    def test_it_is_read_at_least_as_often_as_a_row_is_kept(self):
        for seed in range(40):
            plans = Plans(COLUMNS, seed)
            plan, table = plans.plan(2), plans.table(3)
            blocks, rows = [fraction(told) for told in reading(COLUMNS, plan, table)]
            kept = {lot: fraction(chance) for lot, chance in law_of(table, plan).items()}
            self.assertGreaterEqual(rows, sum(chance * len(lot) for lot, chance in kept.items()))
            self.assertGreaterEqual(blocks, sum(chance * len({table.rows[row][0] for row in lot}) for lot,
                                                chance in kept.items()))


class TestNestedPlans(unittest.TestCase):

    def test_both_ways_is_alike(self):
        seen = 0
        for _, one, other in small_pairs(COLUMNS, 120):
            ways = judge_within(COLUMNS, one, other), judge_within(COLUMNS, other, one)
            if ways[0] and ways[1]:
                self.assertTrue(judge_same(COLUMNS, one, other))
                seen += 1
            elif ways[0] or ways[1]:
                # the one that is within keeps some rows less often
                self.assertFalse(judge_same(COLUMNS, one, other))
            self.assertTrue(judge_within(COLUMNS, ("and", (one, other)), one))
        self.assertGreater(seen, 20)

    def test_alike_is_not_within(self):
        self.assertTrue(judge_same(COLUMNS, BLOCK, ("not", BLOCK)))
        self.assertFalse(judge_within(COLUMNS, BLOCK, ("not", BLOCK)))

    def test_samples_of_seeds(self):
        for plans, one, other in small_pairs(COLUMNS, 60):
            table = plans.table(5)
            if judge_within(COLUMNS, one, other):
                for seed in range(20):
                    draws = drawn(table, (one, other), seed)
                    self.assertLessEqual(set(sieve(table, one, draws)), set(sieve(table, other, draws)))


class TestJoinsOfTwoTables(unittest.TestCase):

    def test_both_ways_of_judging_joins(self):
        one, other = Columns(["k"], {"n": "number"}, []), Columns(["k", "m"], {}, [])
        seen = [0, 0]
        for seed in range(60):
            ones, others = Plans(one, seed, (HALF,)), Plans(other, seed + 60, (HALF,))
            first, second = (ones.plan(1), others.plan(2)), (ones.plan(1), others.plan(2))
            if seed % 2:
                first, second = (("and", (KEY, first[0])), first[1]), (first[0], ("and", (first[1], KEY)))
            try:
                told = judge_join(one, other, "k", first, second)
            except TooLarge:
                continue
            self.assertEqual(bool(told), bool(judge_joined([one, other], first, second)))
            self.assertTrue(shows_join(told, one, other, "k", first, second))
            seen[bool(told)] += 1
            if told:
                self.assertEqual(join_chance(one, other, "k", first), join_chance(one, other, "k", second))
        self.assertGreater(min(seen), 10)

    def test_pushes_keep_sums_and_their_errors(self):
        columns = [Columns(["k"], {"n": "number"}, ["x"]), Columns(["k"], {}, ["y"])]
        plans = (("and", (KEY, ROW)), ("block", "a", THIRD))
        tables = [Plans(own, 5).table(5) for own in columns]
        told = {join_variance(tables, "k", push, (LESS, ALL), ("x", "y")) for push in pushes(columns, plans)}
        self.assertEqual(len(told), 1)
        self.assertEqual(len(pushes(columns, plans)), 2)
        for push in pushes(columns, plans):
            self.assertTrue(judge_join(columns[0], columns[1], "k", plans, push))


TABLE = Table(COLUMNS, [(0, (1,), (2,), (3,))])
EVIDENCE = (
    (Weights, ({(): ONE},)), (Unseen, ([True], [2])), (KeysTold, ((2, 1), [0])),
            (KeysAstray, (TABLE, Table(COLUMNS, []))),
    (ErrAlike, ({(): ONE}, {((), (), ()): ONE})), (ErrUnlike, (TABLE, "x")),
            (HandWeights, ({(): ONE}, {((), (), ()): ONE})),
    (NeverBoth, ([True], [False], ["block"])), (Same, ({"block": (0, 1)},)),
            (Unlike, (0, {"block": (0, 1)}, [ONE, NOUGHT])),
    (Apart, (TABLE, [ONE, NOUGHT])), (Within, ()), (Outside, ([2], {("row", "a"): NOUGHT})),
            (Cheapest, (1, Same({}), {0: Same({})})),
    (Pushed, (0, [ONE])), (JoinWeights, ({((), ()): ONE},)), (JoinUnseen, ([(1,), (2,)],)),
)
SHOWS = {
    "Same": True, "Unlike": False, "Within": True, "Outside": False, "Cheapest": True, "JoinWeights": True,
         "JoinUnseen": False,
    "Weights": True, "Unseen": False, "KeysTold": True, "KeysAstray": False, "ErrAlike": True, "ErrUnlike": False,
    "HandWeights": True, "NeverBoth": False,
}


class TestEvidence(unittest.TestCase):

    def test_attributes(self):
        for made, arguments in EVIDENCE:
            names = [name for name in vars(made(*arguments))]
            self.assertEqual(len(names), len(arguments))
            for name, argument in zip(names, arguments):
                told = getattr(made(*arguments), name)
                if isinstance(argument, list):
                    self.assertEqual(told, tuple(argument))
                else:
                    self.assertEqual(told, argument)
                if isinstance(argument, dict):
                    self.assertIs(type(told), dict)
                    self.assertIsNot(told, argument)

    def test_equal_to_the_same_alone(self):
        for made, arguments in EVIDENCE:
            told = made(*arguments)
            self.assertEqual(told, made(*copy.deepcopy(arguments)))
            self.assertNotEqual(told, arguments)
            self.assertNotEqual(told, None)
            for further, others in EVIDENCE:
                self.assertEqual(told == further(*others), made is further)

    def test_truth(self):
        for made, arguments in EVIDENCE:
            if made.__name__ in SHOWS:
                self.assertIs(bool(made(*arguments)), SHOWS[made.__name__])


class TestNothingIsChangedOrKept(Refusing):

    def check(self, call, *arguments):
        """Arguments stay as they are, also if a call raises; what is returned is new each time."""
        before = copy.deepcopy(arguments)
        told = call(*arguments)
        kept = copy.deepcopy(told)
        self.assertEqual(arguments, before)
        empty(told)
        self.assertEqual(arguments, before)
        self.assertEqual(call(*arguments), kept)

    def test_calls(self):
        columns = [PLAIN, PLAIN]
        sums = Columns(["k"], {"n": "number"}, ["x"])
        tables = [Table(sums, [(0, (1,), (0,), (3,))]), Table(sums, [(0, (1,), (2,), (5,))])]
        mixed = ("and", (BLOCK, ROW))
        self.check(judge_same, COLUMNS, mixed, ROW)
        self.check(judge_same, COLUMNS, mixed, mixed)
        self.check(classes_of, COLUMNS, [mixed, ROW, mixed])
        self.check(judge_pair, [Kernel({"a": (HALF, HALF)}, [(("a",), {(0,): ONE, (1,): NOUGHT})])] * 2)
        self.check(all_kept, COLUMNS, [mixed, ROW], 0, TABLE)
        self.check(table_apart, COLUMNS, mixed, ROW, 2)
        self.check(judge_join, PLAIN, PLAIN, "k", [KEY, ALL], [ALL, KEY])
        self.check(join_chance, PLAIN, PLAIN, "k", [KEY, ALL])
        self.check(judge_within, COLUMNS, mixed, ROW)
        self.check(judge_within, COLUMNS, ROW, mixed)
        self.check(cheapest_same, COLUMNS, ROW, [(2, ROW), (1, mixed)])
        self.check(reading, COLUMNS, mixed, TABLE)
        self.check(judge_joined, columns, [KEY, ALL], [ALL, KEY])
        self.check(shows_joined, Same({"key k": (0, 1)}), columns, [KEY, ALL], [ALL, KEY])
        self.check(pushes, columns, [KEY, ALL])
        self.check(cheapest_push, columns, [KEY, ALL], [Table(PLAIN, []), Table(PLAIN, [(0, (1,), (), ())])],
                   [(1, 1), (2, 2)])
        self.check(judge_join_sum, sums, sums, "k", [KEY, ALL], [LESS, ALL])
        self.check(true_join_sum, tables, "k", [LESS, ALL], ["x", "x"])
        weights = judge_join_sum(sums, sums, "k", [KEY, ALL], [LESS, ALL])
        self.check(join_estimate, tables, "k", [KEY, ALL], [LESS, ALL], weights, [(0,), (0,)], ["x", "x"])
        self.check(join_variance, tables, "k", [KEY, ALL], [LESS, ALL], ["x", "x"])

    def test_a_call_that_raises_changes_nothing(self):
        plans, columns, offers = [KEY, ("less", "t", 5)], [PLAIN, PLAIN], [(1, 5)]
        self.refused(BadPlan, pushes, columns, plans)
        self.refused(BadPlan, classes_of, PLAIN, plans)
        self.refused(BadPlan, cheapest_same, PLAIN, KEY, offers)
        self.assertEqual((plans, columns, offers), ([KEY, ("less", "t", 5)], [PLAIN, PLAIN], [(1, 5)]))

    def test_evidence_of_its_own(self):
        told = cheapest_same(COLUMNS, ROW, [(1, BLOCK), (2, ROW)])
        told.against[0].chosen.clear()
        told.paper.maps["block"] = (0,)
        self.assertTrue(cheapest_same(COLUMNS, ROW, [(1, BLOCK), (2, ROW)]).shows(COLUMNS, ROW, [(1, BLOCK), (2, ROW)]))


def empty(told):
    """Clear all lists and dicts of what was returned."""
    if isinstance(told, (list, dict)):
        told.clear()
    elif isinstance(told, tuple):
        for part in told:
            empty(part)
    elif hasattr(told, "__dict__") and not isinstance(told, (Table, Columns)):
        for part in vars(told).values():
            empty(part)


if __name__ == "__main__":
    unittest.main()
