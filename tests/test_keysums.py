import unittest

from evensieve.errors import BadColumns, BadPlan, TooLarge
from evensieve.fractions import lowest, product_of
from evensieve.keysums import KeysAstray, KeysTold, judge_keys
from evensieve.sums import expected_keys
from evensieve.tables import Columns, Table
from tests.oracles import Plans, Refusing

COLUMNS = Columns(["k", "l"], {"n": "number"}, ["x"])
HALF, THIRD = (1, 2), (1, 3)
ROW, BLOCK = ("row", "a", HALF), ("block", "a", HALF)
KEY, OTHER_KEY = ("hash", "k", "a", THIRD), ("hash", "l", "a", THIRD)
ALL, NONE, LESS = ("all",), ("none",), ("less", "n", 5)
BLOCKS_7 = ("or", tuple(("block", "a", (number, 7)) for number in range(1, 7)))


def table_of(*rows, columns=COLUMNS):
    return Table(columns, [(block, keys, (number,), (0,)) for block, keys, number in rows])


ONE_ROW = table_of((0, (1, 1), 0))
TWO_ROWS = table_of((0, (1, 1), 0), (1, (1, 2), 0))


class TestKeysTold(Refusing):

    def told(self, plan, factor, states, name="k", columns=COLUMNS):
        told = judge_keys(columns, plan, name)
        self.assertEqual(told, KeysTold(factor, states))
        self.assertEqual((told.factor, told.states), (factor, states))
        self.assertIs(bool(told), True)
        self.assertIs(told.shows(columns, plan, name), True)

    def test_no_draws(self):
        self.told(ALL, (1, 1), (0,))
        self.told(("or", (LESS, ("not", LESS))), (1, 1), (0,))

    def test_draws_from_the_key_alone(self):
        self.told(KEY, (3, 1), (0,))
        self.told(("not", KEY), (3, 2), (1,))
        self.told(("hash", "l", "b", (3, 4)), (4, 3), (0,), "l")
        self.told(("or", (KEY, ("not", ("hash", "k", "a", HALF)))), (6, 5), (0, 2))
        self.told(("or", (KEY, ("not", KEY))), (1, 1), (0, 1))

    def test_several_draws_of_the_key(self):
        self.told(("and", (("hash", "k", "b", HALF), KEY)), (6, 1), (0,))
        # states are (0, 0), (0, 1), (1, 0), (1, 1) of a and b
        self.told(("or", (("hash", "k", "b", (1, 4)), KEY)), (2, 1), (0, 1, 2))
        self.told(("and", (("hash", "k", "b", (1, 4)), ("not", KEY))), (6, 1), (2,))

    def test_draws_with_one_part(self):
        self.told(("hash", "k", "a", (1, 1)), (1, 1), (0,))
        self.told(("and", (KEY, ("hash", "k", "b", (1, 1)))), (3, 1), (0,))

    def test_draws_that_tell_nothing(self):
        self.told(("and", (KEY, ("or", (BLOCK, ("not", BLOCK))))), (3, 1), (0,))
        self.told(("or", (ALL, ROW, BLOCK, OTHER_KEY)), (1, 1), (0,))
        self.told(("or", (("and", (LESS, KEY)), ("and", (("not", LESS), KEY)))), (3, 1), (0,))

    def test_asks_that_tell_nothing(self):
        self.told(("and", (KEY, ("or", (LESS, ("not", LESS))))), (3, 1), (0,))

    def test_factor_times_chances_is_one(self):
        for above in range(1, 6):
            told = judge_keys(COLUMNS, ("not", ("hash", "k", "a", (above, 7))), "k")
            self.assertEqual(product_of([told.factor, lowest(7 - above, 7)]), (1, 1))

    def test_it_is_the_factor(self):
        plan = ("or", (KEY, ("not", ("hash", "k", "a", HALF))))
        for seed in range(20):
            table = Plans(COLUMNS, seed).table(5, keys=4)
            mean = expected_keys(table, plan, "k")
            self.assertEqual(product_of([mean, (6, 5)]), (len(table.entities("key k")), 1))

    def test_what_does_not_show(self):
        plan = ("or", (KEY, ("not", ("hash", "k", "a", HALF))))
        self.assertTrue(KeysTold((6, 5), [0, 2]).shows(COLUMNS, plan, "k"))
        for factor, states in (((6, 5), (0,)), ((6, 5), (0, 1)), ((6, 5), (0, 1, 2)), ((6, 5), (2, 0)), ((6, 5), ()),
                               ((6, 5), (0, 2, 3)), ((6, 5), (-1, 0, 2)), ((6, 5), (0, 0, 2)), ((3, 1), (0,)),
                               ((1, 1), (0, 2)), ((5, 6), (0, 2)), ((0, 1), (0, 2)), ((-6, 5), (0, 2))):
            self.assertIs(KeysTold(factor, states).shows(COLUMNS, plan, "k"), False)

    def test_behind_other_plans_and_columns(self):
        told = KeysTold((3, 1), (0,))
        self.assertTrue(told.shows(COLUMNS, KEY, "k"))
        self.assertIs(told.shows(COLUMNS, ("hash", "k", "a", HALF), "k"), False)
        self.assertIs(told.shows(COLUMNS, ("and", (KEY, ROW)), "k"), False)
        self.assertIs(told.shows(COLUMNS, KEY, "l"), False)
        self.assertIs(told.shows(COLUMNS, OTHER_KEY, "k"), False)
        self.assertIs(told.shows(COLUMNS, NONE, "k"), False)
        self.assertTrue(told.shows(COLUMNS, OTHER_KEY, "l"))


class TestKeysAstray(Refusing):

    def astray(self, plan, name="k", columns=COLUMNS):
        told = judge_keys(columns, plan, name)
        self.assertIsInstance(told, KeysAstray)
        self.assertIs(bool(told), False)
        self.assertIs(told.shows(columns, plan, name), True)
        means = []
        for table in (told.one, told.other):
            self.assertEqual(table.columns, columns)
            self.assertEqual(len(table.entities("key " + name)), 1)
            means.append(expected_keys(table, plan, name))
        self.assertTrue(means[0] != means[1] or means == [(0, 1), (0, 1)])

    def test_draws_from_rows_blocks_and_other_keys(self):
        for plan in (ROW, BLOCK, OTHER_KEY, ("and", (KEY, ROW)), ("or", (KEY, BLOCK)), ("and", (KEY, OTHER_KEY)),
                     ("or", (OTHER_KEY, ("and", (ROW, KEY))))):
            self.astray(plan)
        self.astray(KEY, "l")

    def test_asks_that_tell(self):
        for plan in (LESS, ("and", (LESS, KEY)), ("or", (LESS, KEY)), ("and", (LESS, ROW)),
                     ("or", (("and", (LESS, KEY)), ("and", (("not", LESS), ("not", KEY)))))):
            self.astray(plan)

    def test_types_that_are_kept_as_often_with_other_keys(self):
        key = ("hash", "k", "a", HALF)
        self.astray(("or", (("and", (LESS, key)), ("and", (("not", LESS), ("not", key))))))

    def test_nothing_is_kept(self):
        for plan in (NONE, ("and", (KEY, ("not", KEY))), ("row", "a", (0, 1)), ("hash", "k", "a", (0, 1))):
            self.astray(plan)

    def test_a_plan_that_is_large(self):
        five = tuple(("block", "a", (number, 7)) for number in range(1, 6))
        keys = tuple(("hash", "k", "a", (number, 7)) for number in range(1, 6))
        self.astray(("and", (("or", five), ("or", keys), ROW)))
        self.astray(("and", (("or", five), ("or", keys))), "l")

    def test_others_that_show(self):
        self.assertTrue(KeysAstray(ONE_ROW, TWO_ROWS).shows(COLUMNS, ROW, "k"))
        self.assertTrue(KeysAstray(TWO_ROWS, ONE_ROW).shows(COLUMNS, BLOCK, "k"))
        self.assertTrue(KeysAstray(ONE_ROW, ONE_ROW).shows(COLUMNS, NONE, "k"))
        self.assertTrue(KeysAstray(ONE_ROW, table_of((5, (9, 9), 9))).shows(COLUMNS, LESS, "k"))

    def test_equal_means(self):
        for plan in (KEY, ALL, ("and", (KEY, ("or", (BLOCK, ("not", BLOCK)))))):
            self.assertIs(KeysAstray(ONE_ROW, TWO_ROWS).shows(COLUMNS, plan, "k"), False)
        self.assertIs(KeysAstray(ONE_ROW, ONE_ROW).shows(COLUMNS, ROW, "k"), False)
        same_block = table_of((0, (1, 1), 0), (0, (1, 2), 0))
        self.assertIs(KeysAstray(ONE_ROW, same_block).shows(COLUMNS, BLOCK, "k"), False)

    def test_tables_that_are_wrong(self):
        two_keys = table_of((0, (1, 1), 0), (1, (2, 1), 0))
        for plan in (ROW, NONE):
            for wrong in (two_keys, Table(COLUMNS, []), Table(Columns(["k"], {"n": "number"}, ["x"]),
                                                               [(0, (1,), (0,), (0,))]),
                          Table(Columns(["k", "l"], {"n": "number"}, []), [(0, (1, 1), (0,), ())]),
                          Table(Columns([], {}, []), [])):
                for told in (KeysAstray(ONE_ROW, wrong), KeysAstray(wrong, ONE_ROW), KeysAstray(wrong, wrong)):
                    self.assertIs(told.shows(COLUMNS, plan, "k"), False)

    def test_behind_other_columns(self):
        self.assertTrue(KeysAstray(ONE_ROW, TWO_ROWS).shows(COLUMNS, ROW, "k"))
        self.assertIs(KeysAstray(ONE_ROW, TWO_ROWS).shows(COLUMNS, ROW, "l"), False)

    def test_costs_of_the_tables(self):
        wide = table_of(*[(row, (1, 1), 0) for row in range(20)])
        for told, rows in ((KeysAstray(ONE_ROW, wide), 20), (KeysAstray(wide, ONE_ROW), 20)):
            number = self.refused(TooLarge, told.shows, COLUMNS, BLOCK, "k").number
            self.assertEqual(number, 2 ** rows * (rows + 1))
        self.assertTrue(KeysAstray(ONE_ROW, wide).shows(COLUMNS, ROW, "k"))
        several = table_of(*[(row, (row, 1), 0) for row in range(20)])
        self.assertEqual(self.refused(TooLarge, KeysAstray(several, ONE_ROW).shows, COLUMNS, BLOCK, "k").number, 2 ** 20 * 21)
        wider = table_of(*[(row, (1, 1), 0) for row in range(21)])
        number = self.refused(TooLarge, KeysAstray(wider, wide).shows, COLUMNS, BLOCK, "k").number
        self.assertEqual(number, 2 ** 21 * 22)

    def test_every_plan_has_one_of_both(self):
        kinds = set()
        for seed in range(300):
            plan = Plans(COLUMNS, seed, chances=((1, 2), (1, 1), (0, 1))).plan()
            for name in COLUMNS.hashed:
                told = judge_keys(COLUMNS, plan, name)
                self.assertIs(told.shows(COLUMNS, plan, name), True)
                if not told:
                    self.astray(plan, name)
                kinds.add((bool(told), name))
        self.assertEqual(len(kinds), 4)


class TestEvidence(Refusing):

    def test_attributes(self):
        told = KeysTold((3, 1), [0])
        self.assertEqual((told.factor, told.states), ((3, 1), (0,)))
        told = KeysAstray(ONE_ROW, TWO_ROWS)
        self.assertEqual((told.one, told.other), (ONE_ROW, TWO_ROWS))

    def test_equal(self):
        self.assertEqual(KeysTold((3, 1), (0,)), KeysTold((3, 1), [0]))
        self.assertEqual(KeysAstray(ONE_ROW, TWO_ROWS), KeysAstray(table_of((0, (1, 1), 0)), TWO_ROWS))
        for told, others in ((KeysTold((3, 1), (0,)), (KeysTold((3, 2), (0,)), KeysTold((3, 1), (1,)), ((3, 1), (0,)))),
                             (KeysAstray(ONE_ROW, TWO_ROWS), (KeysAstray(TWO_ROWS, ONE_ROW),
                                                              KeysAstray(ONE_ROW, ONE_ROW), KeysAstray(TWO_ROWS, TWO_ROWS),
                                                              (ONE_ROW, TWO_ROWS)))):
            for other in others + (None, 0, False, KeysTold((1, 1), ()), "told"):
                self.assertNotEqual(told, other)
                self.assertNotEqual(other, told)

    def test_errors_in_their_order(self):
        calls = [judge_keys, KeysTold((1, 1), (0,)).shows, KeysAstray(ONE_ROW, TWO_ROWS).shows]
        wrong = ("less", "k", 5)
        for call in calls:
            for name in ("k", "m"):
                self.assertEqual(self.refused(BadPlan, call, COLUMNS, ("and", (BLOCKS_7, wrong)), name).part, wrong)
            for name in ("m", "n", "x", "", None, 5, "key k", ["k"]):
                self.assertEqual(self.refused(BadColumns, call, COLUMNS, BLOCKS_7, name).part, name)
                self.assertEqual(self.refused(BadColumns, call, COLUMNS, KEY, name).part, name)
            self.assertEqual(self.refused(TooLarge, call, COLUMNS, BLOCKS_7, "k").number, 7)
        wide = table_of(*[(row, (1, 1), 0) for row in range(20)])
        for table in (wide, Table(Columns([], {}, []), []), table_of((0, (1, 1), 0), (0, (2, 1), 0))):
            told = KeysAstray(table, table)
            self.assertEqual(self.refused(TooLarge, told.shows, COLUMNS, BLOCKS_7, "k").number, 7)


if __name__ == "__main__":
    unittest.main()
