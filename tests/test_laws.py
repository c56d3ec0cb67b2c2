import unittest

from evensieve.errors import BadLot, BadPlan, TooLarge
from evensieve.fractions import total
from evensieve.laws import chance_all, chance_none, chance_of, law_of
from evensieve.tables import Columns, Table
from tests.oracles import Plans, Refusing, brute_law, draws_in, fraction, lots_of, pair

COLUMNS = Columns(["k", "l"], {"n": "number"}, ["x"])
HALF, THIRD = (1, 2), (1, 3)
ROW, BLOCK = ("row", "a", HALF), ("block", "a", HALF)
HASH_K, HASH_L = ("hash", "k", "a", HALF), ("hash", "l", "a", HALF)
# Two rows of one block and two of another; the first and the third have one key in k.
TABLE = Table(COLUMNS, [(0, (1, 1), (0,), (0,)), (0, (2, 2), (5,), (0,)), (1, (1, 3), (5,), (0,))])
OTHERS = (chance_of, chance_all, chance_none)


def table_of(blocks):
    """A table without columns, of rows in some blocks."""
    return Table(Columns([], {}, []), [(block, (), (), ()) for block in blocks])


class TestDocument(unittest.TestCase):

    def test_example(self):
        table = table_of((0, 0))
        twice = ("and", (("row", "a", (1, 2)), ("row", "b", (1, 2))))
        blocks = ("and", (("block", "a", (1, 2)), ("row", "b", (1, 2))))
        self.assertEqual([chance_all(table, plan, (0,)) for plan in (twice, blocks)], [(1, 4), (1, 4)])
        self.assertEqual([chance_all(table, plan, (0, 1)) for plan in (twice, blocks)], [(1, 16), (1, 8)])


class TestLawOf(unittest.TestCase):

    def told(self, plan, chances, table=TABLE):
        told = law_of(table, plan)
        self.assertEqual(told, chances)
        self.assertEqual(list(told), sorted(chances))
        self.assertEqual(total(list(told.values())), (1, 1))

    def test_all_and_none(self):
        for plan in (("all",), ("row", "a", (1, 1)), ("block", "a", (1, 1)), ("hash", "k", "a", (1, 1)),
                     ("or", (ROW, ("not", ROW))), ("not", ("hash", "l", "a", (0, 1)))):
            self.told(plan, {(0, 1, 2): (1, 1)})
        for plan in (("none",), ("row", "a", (0, 1)), ("block", "a", (0, 1)), ("hash", "k", "a", (0, 1)),
                     ("and", (BLOCK, ("not", BLOCK)))):
            self.told(plan, {(): (1, 1)})

    def test_rows(self):
        self.told(ROW, {lot: (1, 8) for lot in lots_of(3)})
        self.told(("row", "a", THIRD), {(): (8, 27), (0,): (4, 27), (1,): (4, 27), (2,): (4, 27), (0, 1): (2, 27),
                                        (0, 2): (2, 27), (1, 2): (2, 27), (0, 1, 2): (1, 27)})

    def test_blocks(self):
        self.told(("block", "a", THIRD), {(): (4, 9), (0, 1): (2, 9), (0, 1, 2): (1, 9), (2,): (2, 9)})

    def test_keys(self):
        self.told(("hash", "k", "a", THIRD), {(): (4, 9), (0, 2): (2, 9), (0, 1, 2): (1, 9), (1,): (2, 9)})
        self.told(HASH_L, {lot: (1, 8) for lot in lots_of(3)})

    def test_rows_of_blocks(self):
        self.told(("and", (BLOCK, ("row", "b", HALF))), {
            (): (15, 32), (0,): (3, 32), (1,): (3, 32), (0, 1): (3, 32), (2,): (5, 32), (0, 2): (1, 32),
            (1, 2): (1, 32), (0, 1, 2): (1, 32)})

    def test_blocks_and_keys(self):
        self.told(("and", (BLOCK, HASH_K)), {
            (): (1, 2), (0,): (1, 16), (1,): (1, 8), (0, 1): (1, 16), (2,): (1, 8), (0, 2): (1, 16),
            (0, 1, 2): (1, 16)})

    def test_one_salt_used_twice_is_one_draw(self):
        self.told(("and", (ROW, ("row", "a", (1, 4)))), law_of(TABLE, ("row", "a", (1, 4))))
        self.told(("and", (ROW, ("not", ("row", "a", THIRD)))), law_of(TABLE, ("row", "a", (1, 6))))
        self.told(("or", (BLOCK, ("block", "a", (2, 3)))), law_of(TABLE, ("block", "a", (2, 3))))

    def test_draws_that_are_named_alike(self):
        table = table_of((0,))
        self.told(("and", (("row", "a", HALF), ("block", "a", HALF))), {(): (3, 4), (0,): (1, 4)}, table)
        table = Table(COLUMNS, [(4, (4, 4), (0,), (0,))])
        self.told(("and", (ROW, BLOCK, HASH_K, HASH_L)), {(): (15, 16), (0,): (1, 16)}, table)

    def test_asks(self):
        self.told(("less", "n", 3), {(0,): (1, 1)})
        self.told(("or", (("less", "n", 3), ROW)), {(0,): (1, 4), (0, 1): (1, 4), (0, 1, 2): (1, 4), (0, 2): (1, 4)})
        self.told(("and", (("not", ("less", "n", 3)), BLOCK)), {(): (1, 4), (1,): (1, 4), (1, 2): (1, 4), (2,): (1, 4)})
        self.told(("or", (("and", (("less", "n", 3), ROW)), ("and", (("is", "n", 5), BLOCK)))),
                  {lot: (1, 8) for lot in lots_of(3)})

    def test_chances_nought_and_one_in_tests(self):
        self.told(("and", (ROW, ("block", "b", (1, 1)), ("not", ("row", "a", (0, 1))))), law_of(TABLE, ROW))
        self.told(("or", (("hash", "k", "a", (0, 1)), BLOCK)), law_of(TABLE, BLOCK))

    def test_a_table_of_no_rows(self):
        for plan in (("all",), ("none",), ROW, BLOCK, HASH_K):
            self.told(plan, {(): (1, 1)}, Table(COLUMNS, []))

    def test_one_after_another_is_as_everything_looked_through(self):
        for seed in range(60):
            plans = Plans(Columns(["k"], {"n": "number", "t": "text"}, []), seed)
            plan = plans.plan()
            for rows in range(4):
                if rows * draws_in(plan) <= 8:
                    table = plans.table(rows)
                    self.told(plan, {lot: pair(chance) for lot, chance in brute_law(table, plan).items()}, table)

    def test_each_dict_is_new(self):
        law_of(TABLE, ROW).clear()
        self.assertEqual(len(law_of(TABLE, ROW)), 8)


class TestChances(unittest.TestCase):

    def test_by_the_law(self):
        for seed in range(40):
            plans = Plans(COLUMNS, seed)
            plan = plans.plan()
            for rows in range(5):
                table = plans.table(rows)
                told = {lot: fraction(chance) for lot, chance in law_of(table, plan).items()}
                for lot in lots_of(rows):
                    all_kept = sum([chance for kept, chance in told.items() if set(lot) <= set(kept)])
                    none_kept = sum([chance for kept, chance in told.items() if not set(lot) & set(kept)])
                    self.assertEqual(chance_of(table, plan, lot), pair(told.get(lot, fraction((0, 1)))))
                    self.assertEqual(chance_all(table, plan, lot), pair(all_kept))
                    self.assertEqual(chance_none(table, plan, lot), pair(none_kept))

    def test_the_lot_without_rows_and_that_of_all(self):
        self.assertEqual(chance_of(TABLE, BLOCK, ()), (1, 4))
        self.assertEqual(chance_of(TABLE, BLOCK, (0, 1, 2)), (1, 4))
        self.assertEqual(chance_of(TABLE, BLOCK, (0,)), (0, 1))
        self.assertEqual(chance_all(TABLE, BLOCK, ()), (1, 1))
        self.assertEqual(chance_all(TABLE, BLOCK, (0, 1, 2)), (1, 4))
        self.assertEqual(chance_none(TABLE, BLOCK, ()), (1, 1))
        self.assertEqual(chance_none(TABLE, BLOCK, (0, 1, 2)), (1, 4))

    def test_a_table_of_no_rows(self):
        for told in OTHERS:
            self.assertEqual(told(Table(COLUMNS, []), BLOCK, ()), (1, 1))

    def test_many_rows(self):
        table = table_of([0] * 60)
        self.assertEqual(chance_all(table, ("row", "a", HALF), tuple(range(60))), (1, 2 ** 60))
        self.assertEqual(chance_none(table, ("row", "a", THIRD), tuple(range(60))), (2 ** 60, 3 ** 60))
        self.assertEqual(chance_of(table, BLOCK, tuple(range(60))), (1, 2))


class TestCosts(Refusing):
    """A block has five states by the first plan, two by the second."""

    FIVE = ("or", (("block", "a", (1, 5)), ("block", "a", (2, 5)), ("block", "a", (3, 5)), ("block", "a", (4, 5))))

    def too_large(self, number, told, *args):
        self.assertEqual(self.refused(TooLarge, told, *args).number, number)

    def test_law_of(self):
        table = table_of((0, 1, 2, 3, 4, 4))
        told = law_of(table, self.FIVE)
        self.assertEqual(told[(0, 1, 2, 3, 4, 5)], (4 ** 5, 5 ** 5))
        self.assertEqual(len(told), 32)
        self.too_large(204800, law_of, table_of((0,) + (1,) * 12), self.FIVE)
        self.too_large(400000, law_of, table_of((0, 1, 2, 3, 4, 4, 4)), self.FIVE)

    def test_rows_alone(self):
        self.assertEqual(len(law_of(table_of([0] * 12), ROW)), 4096)
        self.assertEqual(law_of(table_of([0] * 17), ("all",)), {tuple(range(17)): (1, 1)})
        self.too_large(2 ** 18, law_of, table_of([0] * 18), ("all",))
        self.too_large(2 ** 60, law_of, table_of([0] * 60), ROW)

    def test_the_others(self):
        columns = Columns(["k", "l"], {}, [])
        at = Table(columns, [(min(row, 4), (min(row, 2), 0), (), ()) for row in range(7)])
        plan = ("and", (self.FIVE, HASH_K))
        self.assertEqual(chance_all(at, plan, tuple(range(7))), (2 ** 7, 5 ** 5))
        self.assertEqual(chance_of(at, plan, ()), chance_none(at, plan, tuple(range(7))))
        above = table_of(tuple(range(12)) + (11,) * 36)
        for told in OTHERS:
            self.too_large(4096 * 49, told, above, BLOCK, ())
            self.too_large(225000, told, Table(columns, at.rows + at.rows[-1:]), plan, ())
        self.assertEqual(chance_all(table_of(tuple(range(12)) + (11,) * 35), BLOCK, (0, 46)), (1, 4))

    def test_a_draw_that_only_some_kinds_have(self):
        rows = [(row, (row, 0), (), ()) for row in range(40)]
        table = Table(Columns(["k", "l"], {}, []), rows)
        self.assertEqual(chance_all(table, HASH_L, tuple(range(40))), (1, 2))
        self.assertEqual(chance_all(table, ROW, (0, 39)), (1, 4))
        self.too_large(2 ** 40 * 41, chance_all, table, HASH_K, ())
        self.too_large(2 ** 41 * 41, chance_all, table, ("and", (HASH_K, HASH_L)), ())
        self.too_large(2 ** 40 * 2 ** 40, law_of, table, BLOCK)

    def test_draws_with_one_part_cost_nothing(self):
        table = table_of(range(60))
        self.assertEqual(chance_all(table, ("block", "a", (1, 1)), tuple(range(60))), (1, 1))
        self.assertEqual(chance_of(table, ("and", (("block", "a", (0, 1)), ROW)), ()), (1, 1))

    def test_measures_come_first(self):
        seven = ("or", tuple(("block", "a", (number, 7)) for number in range(1, 7)))
        table = table_of(range(60))
        self.too_large(7, law_of, table, seven)
        for told in OTHERS:
            self.too_large(7, told, table, seven, ())
            self.too_large(7, told, table, seven, "no lot")
        rows = ("or", tuple(("row", salt, HALF) for salt in "abcdefg"))
        self.too_large(128, law_of, table, rows)


class TestErrors(Refusing):

    def test_what_is_no_lot(self):
        for lot in ([0], [], {0}, None, 0, "", "0", (0, 0), (1, 0), (0, 2, 1), (-1,), (3,), (0, 3), (True,), (0, True),
                    (False, 1), ("0",), (0.0,), ((0,),), (None,), ({},), (0, 1, 1)):
            for told in OTHERS:
                self.assertIs(self.refused(BadLot, told, TABLE, ROW, lot).lot, lot)
        for told in OTHERS:
            self.assertEqual(self.refused(BadLot, told, Table(COLUMNS, []), ROW, (0,)).lot, (0,))

    def test_wrong_plans_come_first(self):
        wide = Table(COLUMNS, [(row, (row, row), (0,), (0,)) for row in range(60)])
        for part in (("row", "a", (2, 4)), ("hash", "m", "a", HALF), ["all"], ("like", "n", "a")):
            for table in (TABLE, wide):
                plan = ("and", (BLOCK, ("not", part)))
                self.assertEqual(self.refused(BadPlan, law_of, table, plan).part, part)
                for told in OTHERS:
                    self.assertEqual(self.refused(BadPlan, told, table, plan, None).part, part)

    def test_cost_comes_ahead_of_the_lot(self):
        wide = Table(COLUMNS, [(row, (row, row), (0,), (0,)) for row in range(60)])
        for told in OTHERS:
            self.assertEqual(self.refused(TooLarge, told, wide, BLOCK, [0]).number, 2 ** 60 * 61)


if __name__ == "__main__":
    unittest.main()
