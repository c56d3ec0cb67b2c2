import itertools
import unittest

from evensieve.asks import asks_in, types_of
from evensieve.draws import holds_at, lengths, tests_in
from evensieve.errors import BadPlan, TooLarge
from evensieve.laws import law_of
from evensieve.measures import measures
from evensieve.nested import Outside, Within, judge_within
from evensieve.tables import Columns
from tests.oracles import Plans, Refusing, both, either, negated

COLUMNS = Columns(["k", "l"], {"n": "number", "name": "text"}, ["x"])
HALF, THIRD, TWO_THIRDS = (1, 2), (1, 3), (2, 3)
NOUGHT, ONE = (0, 1), (1, 1)
ROW, BLOCK, KEY, OTHER = ("row", "a", HALF), ("block", "a", HALF), ("hash", "k", "a", HALF), ("hash", "l", "a", HALF)
ALL, NONE, LESS, LIKE = ("all",), ("none",), ("less", "n", 5), ("like", "name", "a*")
BLOCKS_7 = ("or", tuple(("block", "a", (number, 7)) for number in range(1, 7)))
D_ROW, D_BLOCK, D_KEY = ("row", "a"), ("block", "a"), ("hash", "k", "a")


def is_within(columns, one, other):
    """Whether one holds nowhere without the other, by going through all parts of all draws and all answers."""
    plans = (one, other)
    tests = tests_in(plans)
    for parts in itertools.product(*[range(len(lengths(plans, test))) for test in tests]):
        known = dict(zip(tests, parts))
        for answers, _ in types_of(columns, plans):
            told = dict(zip(asks_in(plans), answers))
            if holds_at(plans, one, told, known) and not holds_at(plans, other, told, known):
                return False
    return True


class TestJudgeWithin(Refusing):

    def told(self, one, other, is_so, columns=COLUMNS):
        told = judge_within(columns, one, other)
        self.assertIs(bool(told), is_so, (one, other))
        self.assertIsInstance(told, Within if is_so else Outside)
        self.assertIs(told.shows(columns, one, other), True)
        self.assertIs(Within().shows(columns, one, other), is_so)
        if not is_so:
            self.assertEqual(set(told.draws), set(tests_in((one, other))))
            self.assertEqual(len(told.row), len(columns.asked))
        return told

    def test_plans_of_each_other(self):
        for one in (ROW, BLOCK, KEY, LESS, either(ROW, both(KEY, LIKE))):
            for other in (OTHER, ("row", "b", THIRD), negated(BLOCK), LIKE):
                self.told(both(one, other), one, True)
                self.told(both(one, other), other, True)
                self.told(one, either(one, other), True)
                self.told(one, both(one, other), False)
                self.told(either(one, other), one, False)
                self.told(one, negated(both(negated(one), other)), True)
                self.told(one, one, True)
                self.told(one, negated(one), False)
            self.told(NONE, one, True)
            self.told(one, ALL, True)
            self.told(ALL, one, False)
            self.told(one, NONE, False)

    def test_thresholds_that_grow(self):
        for test in (D_ROW, D_BLOCK, D_KEY):
            chances = (NOUGHT, THIRD, HALF, TWO_THIRDS, ONE)
            for at, chance in enumerate(chances):
                for place, other in enumerate(chances):
                    self.told(test + (chance,), test + (other,), at <= place)
                    self.told(negated(test + (chance,)), negated(test + (other,)), at >= place)

    def test_other_draws(self):
        self.told(ROW, ("row", "b", TWO_THIRDS), False)
        self.told(ROW, ("block", "a", TWO_THIRDS), False)
        self.told(KEY, ("hash", "l", "a", TWO_THIRDS), False)
        self.told(ROW, ("row", "b", ONE), True)
        self.told(("row", "a", NOUGHT), ("row", "b", NOUGHT), True)

    def test_asks_that_exclude_each_other(self):
        self.told(both(LESS, ("is", "n", 7)), NONE, True)
        self.told(both(("is", "n", 3), ROW), both(LESS, ROW), True)
        self.told(both(("is", "name", "ab"), KEY), both(LIKE, KEY), True)
        self.told(both(LIKE, KEY), both(("is", "name", "ab"), KEY), False)
        self.told(either(LESS, ("less", "n", 7)), ("less", "n", 7), True)
        self.told(("less", "n", 1000000), negated(("is", "n", 1000000)), True)
        self.told(negated(("is", "n", 1000000)), ("less", "n", 1000000), True)
        self.told(both(("like", "name", "?"), ("like", "name", "??")), NONE, True)

    def test_plans_without_rows(self):
        self.told(NONE, NONE, True)
        self.told(both(ROW, negated(ROW)), NONE, True)
        self.told(both(BLOCK, ("block", "a", NOUGHT)), both(KEY, negated(KEY)), True)
        self.told(NONE, BLOCK, True, Columns([], {}, []))
        self.told(negated(("row", "a", ONE)), NONE, True)
        self.told(negated(both(("row", "a", ONE), ("block", "a", ONE))), both(KEY, negated(KEY)), True)

    def test_what_is_told(self):
        self.assertEqual(judge_within(COLUMNS, ROW, both(ROW, BLOCK)).draws, {D_ROW: NOUGHT, D_BLOCK: HALF})
        self.assertEqual(judge_within(Columns(["k"], {}, []), KEY, ("hash", "k", "a", THIRD)),
                         Outside((), {D_KEY: THIRD}))
        told = judge_within(Columns([], {"n": "number"}, []), LESS, ("less", "n", 4))
        self.assertEqual(told, Outside((4,), {}))

    def test_by_all_parts_and_answers(self):
        seen = [0, 0]
        columns = Columns(["k"], {"n": "number"}, [])
        for seed in range(200):
            plans = Plans(columns, seed)
            one, other = plans.plan(2), plans.plan(2)
            if seed % 4 == 0:
                other = either(other, both(one, plans.plan(2)), one)
            if max(measures(columns, (one, other))[:2]) > 6:
                continue
            is_so = is_within(columns, one, other)
            self.told(one, other, is_so, columns)
            seen[is_so] += 1
        self.assertGreater(min(seen), 30)

    def test_kept_rows_of_tables(self):
        columns = Columns(["k"], {"n": "number"}, [])
        for seed in range(40):
            plans = Plans(columns, seed)
            table, one = plans.table(2), plans.plan(2)
            other = both(one, plans.plan(2))
            self.assertTrue(judge_within(columns, other, one))
            self.assertEqual(law_of(table, both(other, negated(one))), {(): ONE})

    def test_errors(self):
        wrong, further = ("less", "t", 5), ("hash", "z", "a", HALF)
        for call in (judge_within, Within().shows, Outside((), {}).shows, Outside((0, ""), {D_ROW: HALF}).shows):
            for one, other, part in ((wrong, further, wrong), (ROW, further, further), (BLOCKS_7, wrong, wrong),
                                     (5, 6, 5), (ROW, None, None)):
                self.assertEqual(self.refused(BadPlan, call, COLUMNS, one, other).part, part)
            self.assertEqual(self.refused(TooLarge, call, COLUMNS, BLOCKS_7, ROW).number, 7)
            self.assertEqual(self.refused(TooLarge, call, COLUMNS, ROW, BLOCKS_7).number, 7)
            rows = [("row", "abcdefg"[at], HALF) for at in range(7)]
            self.assertEqual(self.refused(TooLarge, call, COLUMNS, both(*rows[:4]), both(*rows[4:])).number, 128)

    def test_large_plans(self):
        rows = both(*[("row", "abcdef"[at], HALF) for at in range(6)])
        kinds = both(*[("block", "a", (number, 6)) for number in (1, 5)], ("block", "b", HALF),
                     *[("hash", "k", "a", (number, 6)) for number in (1, 5)], ("hash", "l", "b", HALF))
        self.assertEqual(measures(COLUMNS, (rows, kinds))[:3], (36, 6, 64))
        self.told(both(rows, kinds), either(kinds, LESS), True)
        self.told(either(rows, LESS), either(rows, LIKE), False)
        self.told(either(both(rows, LIKE), kinds), both(either(rows, kinds), either(kinds, LIKE)), True)


class TestWithin(unittest.TestCase):

    def test_equal(self):
        self.assertEqual(Within(), Within())
        self.assertIs(bool(Within()), True)
        for other in (Outside((), {}), None, True, 1, "Within"):
            self.assertNotEqual(Within(), other)
            self.assertNotEqual(other, Within())


class TestOutside(unittest.TestCase):

    ONE, OTHER = either(both(LESS, ROW), both(LIKE, KEY)), both(ROW, BLOCK)
    ROW_OF, DRAWS = (4, "b"), {D_ROW: NOUGHT, D_BLOCK: HALF, D_KEY: HALF}

    def shown(self, row, draws):
        return Outside(row, draws).shows(COLUMNS, self.ONE, self.OTHER)

    def test_attributes(self):
        row, draws = [4, "b"], {D_ROW: NOUGHT}
        told = Outside(row, draws)
        row.clear()
        draws.clear()
        self.assertEqual((told.row, told.draws), ((4, "b"), {D_ROW: NOUGHT}))
        self.assertIs(bool(told), False)

    def test_equal(self):
        told = Outside(self.ROW_OF, self.DRAWS)
        self.assertEqual(told, Outside([4, "b"], dict(list(self.DRAWS.items())[::-1])))
        for other in (Outside((3, "b"), self.DRAWS), Outside(self.ROW_OF, {}),
                      Outside(self.ROW_OF, {**self.DRAWS, D_ROW: THIRD}),
                      Within(), None, self.ROW_OF):
            self.assertNotEqual(told, other)
            self.assertNotEqual(other, told)

    def test_shows(self):
        self.assertIs(self.shown(self.ROW_OF, self.DRAWS), True)
        self.assertIs(self.shown([4, "b"], self.DRAWS), True)
        self.assertIs(self.shown((5, "ab"), {D_ROW: HALF, D_BLOCK: NOUGHT, D_KEY: (499, 1000)}), True)
        self.assertIs(self.shown(self.ROW_OF, {D_ROW: (1, 3), D_BLOCK: (999, 1000), D_KEY: (7, 8)}), True)

    def test_rows_that_do_not_show(self):
        for row in ((5, "b"), (5, "ab"), (), (4,), (4, "b", "b"), ("b", 4), (4, 4), (True, "b"), (1000001, "b"),
                    (None, "b"), (4, None),
                    ("4", "b")):
            self.assertIs(self.shown(row, self.DRAWS), False, row)

    def test_draws_that_do_not_show(self):
        for test in self.DRAWS:
            self.assertIs(self.shown(self.ROW_OF, {key: draw for key, draw in self.DRAWS.items() if key != test}),
                          False)
            for wrong in (ONE, (3, 2), (-1, 2), (2, 4), 0, None, (0, 2), (1, 2, 3), [0, 1], (0, -1), "0"):
                self.assertIs(self.shown(self.ROW_OF, {**self.DRAWS, test: wrong}), False)
        for further in (("row", "b"), ("block", "b"), ("hash", "l", "a"), ("hash", "a"), ("row", "a", 0), "row", 5):
            self.assertIs(self.shown(self.ROW_OF, {**self.DRAWS, further: NOUGHT}), False)
        self.assertIs(self.shown(self.ROW_OF, {}), False)

    def test_draws_that_keep_both_or_none(self):
        self.assertIs(self.shown(self.ROW_OF, {**self.DRAWS, D_BLOCK: THIRD}), False)
        self.assertIs(self.shown(self.ROW_OF, {**self.DRAWS, D_ROW: HALF}), False)
        self.assertIs(Outside(self.ROW_OF, self.DRAWS).shows(COLUMNS, self.OTHER, self.ONE), False)
        self.assertIs(Outside(self.ROW_OF, {D_ROW: NOUGHT}).shows(COLUMNS, ROW, ROW), False)

    def test_behind_other_plans(self):
        told = Outside((0,), {D_ROW: NOUGHT, D_KEY: HALF})
        columns = Columns(["k"], {"n": "number"}, [])
        self.assertTrue(told.shows(columns, ROW, KEY))
        for one, other in ((KEY, ROW), (ROW, both(KEY, BLOCK)), (ROW, ROW), (ROW, ("hash", "k", "b", HALF)),
                           (ROW, either(KEY, LESS))):
            self.assertIs(told.shows(columns, one, other), False)
        self.assertIs(told.shows(Columns(["k"], {}, []), ROW, KEY), False)
        self.assertIs(told.shows(Columns(["k"], {"n": "text"}, []), ROW, KEY), False)


if __name__ == "__main__":
    unittest.main()
