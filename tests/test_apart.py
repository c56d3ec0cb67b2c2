import itertools
import random
import unittest

from evensieve.apart import Apart, all_kept, table_apart
from evensieve.asks import types_of
from evensieve.errors import BadPlan, TooLarge
from evensieve.laws import chance_all
from evensieve.measures import measures
from evensieve.same import judge_same
from evensieve.sieveerrors import BadMost
from evensieve.tables import Columns, Table
from tests.oracles import Plans, Refusing, both, either, every_sieving, pair

COLUMNS = Columns(["k"], {"n": "number"}, ["x"])
PLAIN = Columns(["k"], {}, [])
HALF, THIRD, QUARTER = (1, 2), (1, 3), (1, 4)
ONE = (1, 1)
ROW, BLOCK, KEY = ("row", "a", HALF), ("block", "a", HALF), ("hash", "k", "a", HALF)
ALL, NONE = ("all",), ("none",)
BLOCKS_7 = ("or", tuple(("block", "a", (number, 7)) for number in range(1, 7)))
SPLITS = {0: [()], 1: [(0,)], 2: [(0, 0), (0, 1)], 3: [(0, 0, 0), (0, 0, 1), (0, 1, 0), (0, 1, 1), (0, 1, 2)]}


def less(number):
    return ("less", "n", number)


def stairs(*steps):
    """A plan by which a row's chance hangs on its block: (until which number of the block, the chance)."""
    return either(*[both(("block", "a", until), ("row", "a", chance)) for until, chance in steps])


# Single rows and pairs are kept with the same chances, three rows of a block are not; and so on.
THREES = (stairs(((1, 8), ONE), (HALF, (2, 3)), ((7, 8), THIRD)), both(("block", "a", (3, 4)), ("row", "a", (2, 3))))
FOURS = (stairs(((1, 8), ONE), ((7, 8), HALF)), stairs((HALF, (3, 4)), (ONE, QUARTER)))
FIVES = (stairs(((5, 16), (4, 5)), ((15, 16), (2, 5))), stairs(((1, 16), ONE), ((11, 16), (3, 5)), (ONE, (1, 5))))


def tables_of(columns, plans, rows):
    """All tables of so many rows up to names of entities and the order of rows."""
    values = [row for _, row in types_of(columns, plans)]
    for asked in itertools.combinations_with_replacement(values, rows):
        for splits in itertools.product(SPLITS[rows], repeat=1 + len(columns.hashed)):
            yield Table(columns, [(splits[0][row], tuple(split[row] for split in splits[1:]), asked[row],
                                   (1,) * len(columns.summed)) for row in range(rows)])


class TestAllKept(Refusing):

    def test_example(self):
        table = Table(Columns([], {}, []), [(0, (), (), ()), (0, (), (), ())])
        twice, mixed = both(("row", "a", HALF), ("row", "b", HALF)), both(("block", "a", HALF), ("row", "b", HALF))
        self.assertEqual([all_kept(table.columns, (twice, mixed), at, table) for at in (0, 1)], [(1, 16), (1, 8)])

    def test_by_hand(self):
        table = Table(PLAIN, [(0, (1,), (), ()), (0, (2,), (), ()), (3, (1,), (), ())])
        for plan, chance in ((ALL, ONE), (NONE, (0, 1)), (ROW, (1, 8)), (BLOCK, QUARTER), (KEY, QUARTER),
                             (both(BLOCK, KEY), (1, 16)),
                             (either(BLOCK, KEY), HALF), (("block", "a", (2, 3)), (4, 9))):
            self.assertEqual(all_kept(PLAIN, (plan,), 0, table), chance)
            self.assertEqual(all_kept(PLAIN, [ROW, KEY, plan], 2, table), chance)
        self.assertEqual(all_kept(PLAIN, (BLOCK, NONE), 0, Table(PLAIN, [])), ONE)
        self.assertEqual(all_kept(PLAIN, (BLOCK, NONE), 1, Table(PLAIN, [])), ONE)

    def test_against_chance_all(self):
        columns = Columns(["k", "l"], {"n": "number"}, ["x"])
        for seed in range(80):
            plans = Plans(columns, seed)
            plan, other = plans.plan(), plans.plan(2)
            for rows in (0, 1, 2, 4):
                table = plans.table(rows)
                told = chance_all(table, plan, tuple(range(rows)))
                self.assertEqual(all_kept(columns, (plan,), 0, table), told)
                if max(measures(columns, (plan, other))[:2]) <= 6:
                    self.assertEqual(all_kept(columns, (plan, other), 0, table), told)
                    self.assertEqual(all_kept(columns, [other, plan], 1, table), told)

    def test_by_all_draws(self):
        for seed in range(40):
            plans = Plans(COLUMNS, seed)
            plan, table = plans.plan(2), plans.table(2)
            told = sum(chance for lot, chance in every_sieving(table, plan) if lot == (0, 1))
            self.assertEqual(all_kept(COLUMNS, (plan,), 0, table), pair(told + 0) if told else (0, 1))

    def test_many_rows(self):
        table = Table(COLUMNS, [(number % 4, (number % 3,), (number,), (0,)) for number in range(60)])
        self.assertEqual(all_kept(COLUMNS, (ROW,), 0, table), (1, 2 ** 60))
        self.assertEqual(all_kept(COLUMNS, (either(both(less(30), BLOCK), both(("not", less(30)), KEY)),), 0, table),
                         (1, 2 ** 7))
        self.assertEqual(all_kept(COLUMNS, (either(ROW, less(30)), KEY), 0, table), (1, 2 ** 30))
        plan = both(either(BLOCK, KEY), either(less(50), ROW))
        # all blocks, or all keys; then the last ten rows
        self.assertEqual(all_kept(COLUMNS, (plan,), 0, table), (2 ** 4 + 2 ** 3 - 1, 2 ** 17))

    def test_errors(self):
        table = Table(COLUMNS, [(0, (0,), (0,), (1,))])
        wrong, further = less("5"), ("hash", "l", "a", HALF)
        for plans, at, part in (((wrong,), 0, wrong), ((ROW, wrong), 0, wrong), ((further, wrong), 1, further),
                                ((BLOCKS_7, 5), 0, 5)):
            self.assertEqual(self.refused(BadPlan, all_kept, COLUMNS, plans, at, table).part, part)
        self.assertEqual(self.refused(TooLarge, all_kept, COLUMNS, (BLOCKS_7,), 0, table).number, 7)
        self.assertEqual(self.refused(TooLarge, all_kept, COLUMNS, (ROW, BLOCKS_7), 0, table).number, 7)

    def test_bound(self):
        fives = both(*[("block", "a", (number, 5)) for number in (1, 2, 3, 4)], KEY)
        table = Table(PLAIN, [(number % 5, (number,), (), ()) for number in range(6)])
        self.assertEqual(all_kept(PLAIN, (fives,), 0, table), (1, 5 ** 5 * 2 ** 6))
        for rows, number in ((7, 400000), (8, 800000)):
            wide = Table(PLAIN, [(number % 5, (number,), (), ()) for number in range(rows)])
            self.assertEqual(self.refused(TooLarge, all_kept, PLAIN, (fives,), 0, wide).number, number)
        wide = Table(PLAIN, [(number, (number % 6,), (), ()) for number in range(6)])
        self.assertEqual(self.refused(TooLarge, all_kept, PLAIN, (fives,), 0, wide).number, 1000000)
        # only kinds by which this plan draws count, cut by all plans
        many = Table(PLAIN, [(0, (number,), (), ()) for number in range(17)])
        self.assertEqual(all_kept(PLAIN, (KEY, fives), 0, many), (1, 2 ** 17))
        self.assertEqual(all_kept(PLAIN, (ROW, KEY, BLOCK), 0, Table(PLAIN, [(at, (at,), (), ()) for at in range(60)])),
                         (1, 2 ** 60))
        cut = both(*[("hash", "k", "a", (number, 5)) for number in (1, 2, 3, 4)])
        self.assertEqual(self.refused(TooLarge, all_kept, PLAIN, (KEY, cut), 0, many).number, 6 ** 17)
        self.assertEqual(self.refused(TooLarge, all_kept, PLAIN, (KEY,), 0, Table(PLAIN, [
            (0, (number,), (), ()) for number in range(18)])).number, 2 ** 18)


class TestTableApart(Refusing):

    def told(self, one, other, rows, columns=PLAIN):
        """The told table has so many rows; with fewer allowed there is none."""
        for most in range(1, 5):
            told = table_apart(columns, one, other, most)
            if most < rows:
                self.assertIsNone(told)
                continue
            self.assertIsInstance(told, Apart)
            self.assertEqual(len(told.table), rows)
            self.assertEqual(told.table.columns, columns)
            every = tuple(range(rows))
            self.assertEqual(told.chances, tuple(chance_all(told.table, plan, every) for plan in (one, other)))
            self.assertNotEqual(*told.chances)
            self.assertIs(told.shows(columns, one, other), True)
        for fewer in range(rows):
            for table in tables_of(columns, (one, other), fewer):
                every = tuple(range(fewer))
                self.assertEqual(chance_all(table, one, every), chance_all(table, other, every))

    def test_one_row(self):
        self.told(ROW, ("row", "a", THIRD), 1)
        self.told(BLOCK, ALL, 1)
        self.told(both(ROW, less(5)), both(ROW, less(6)), 1, COLUMNS)

    def test_two_rows(self):
        self.told(both(BLOCK, ROW), ("row", "a", QUARTER), 2)
        self.told(BLOCK, KEY, 2)
        self.told(BLOCK, ROW, 2)
        self.told(either(both(less(5), BLOCK), both(("not", less(5)), ("not", BLOCK))), BLOCK, 2,
                  Columns([], {"n": "number"}, ["x"]))

    def test_three_and_four_rows(self):
        for one, other in (THREES, THREES[::-1]):
            self.told(one, other, 3)
        for one, other in (FOURS, FOURS[::-1]):
            self.told(one, other, 4, Columns([], {}, []))

    def test_four_may_be_too_few(self):
        columns = Columns([], {}, [])
        for most in (1, 2, 3, 4):
            self.assertIsNone(table_apart(columns, *FIVES, most))
        self.assertFalse(judge_same(columns, *FIVES))
        table = Table(columns, [(0, (), (), ())] * 5)
        chances = tuple(all_kept(columns, FIVES, at, table) for at in (0, 1))
        self.assertTrue(Apart(table, chances).shows(columns, *FIVES))

    def test_none_where_plans_keep_rows_alike(self):
        for one, other in ((BLOCK, ("not", BLOCK)), (both(ROW, ("row", "b", HALF)), ("row", "a", QUARTER)),
                           (ALL, either(ROW, ALL)),
                           (NONE, both(BLOCK, ("not", BLOCK))), (both(BLOCK, KEY),
                                                                 both(("hash", "k", "b", HALF), ("block", "b", HALF)))):
            for most in (1, 2, 3):
                self.assertIsNone(table_apart(PLAIN, one, other, most))

    def test_as_few_rows_as_can_be(self):
        seen = {}
        for seed in range(120):
            plans = Plans(COLUMNS, seed, chances=(HALF, QUARTER))
            one, other = plans.plan(2), plans.plan(2)
            if max(measures(COLUMNS, (one, other))[:2]) > 4 or measures(COLUMNS, (one, other))[3] > 1:
                continue
            told = table_apart(COLUMNS, one, other, 2)
            if judge_same(COLUMNS, one, other):
                self.assertIsNone(told)
            elif told is not None:
                self.told_as_few(told, one, other)
                seen[len(told.table)] = seen.get(len(told.table), 0) + 1
        self.assertGreater(min(seen[1], seen[2]), 5)

    def told_as_few(self, told, one, other):
        self.assertTrue(told.shows(COLUMNS, one, other))
        for fewer in range(len(told.table)):
            for table in tables_of(COLUMNS, (one, other), fewer):
                self.assertEqual(*[all_kept(COLUMNS, (one, other), at, table) for at in (0, 1)])

    def test_several_keys_and_values(self):
        columns = Columns(["k", "l"], {"n": "number", "name": "text"}, ["x", "y"])
        one = either(both(("like", "name", "a*"), KEY), ("hash", "l", "a", HALF))
        self.assertEqual(len(table_apart(columns, one, ALL, 1).table), 1)
        other = either(both(("like", "name", "a*"), ("hash", "l", "b", HALF)), ("hash", "l", "a", HALF))
        told = table_apart(columns, one, other, 2)
        self.assertEqual(len(told.table), 2)
        self.assertTrue(told.shows(columns, one, other))

    def test_most(self):
        for most in (0, 5, -1, True, False, None, "1", [1], (2,), 10 ** 9):
            for one, other in ((ROW, BLOCK), (5, ROW), (BLOCKS_7, ROW)):
                self.assertEqual(self.refused(BadMost, table_apart, PLAIN, one, other, most).most, most)

    def test_bad_plans(self):
        wrong, further = less(5), ("hash", "l", "a", HALF)
        for one, other, part in ((wrong, further, wrong), (ROW, further, further), (BLOCKS_7, wrong, wrong)):
            self.assertEqual(self.refused(BadPlan, table_apart, PLAIN, one, other, 1).part, part)

    def test_too_large(self):
        self.assertEqual(self.refused(TooLarge, table_apart, PLAIN, BLOCKS_7, ROW, 1).number, 7)
        self.assertEqual(self.refused(TooLarge, table_apart, PLAIN, ROW, BLOCKS_7, 4).number, 7)

    def test_bound(self):
        def asked(many, *draws):
            return either(both(*[less(number) for number in range(1, many)], *draws), both(*draws, ROW))
        # five types, two cells of each of both kinds: (5 * 4) ** 3 * 5 * 5
        self.assertIsNone(table_apart(COLUMNS, asked(5, BLOCK, KEY), asked(5, KEY, BLOCK), 3))
        for one, other, most, number in (
                (asked(6, BLOCK, KEY), asked(6, KEY, BLOCK), 3, 24 ** 3 * 25),
                                         (asked(5, BLOCK, KEY), BLOCK, 4, 20 ** 4 * 225),
                (asked(5, BLOCK, KEY), both(KEY, ("block", "a", THIRD)), 3, 30 ** 3 * 25),
                (asked(7, BLOCK), KEY, 3, 28 ** 3 * 25)):
            self.assertEqual(self.refused(TooLarge, table_apart, COLUMNS, one, other, most).number, number)
        wide = Columns(["k", "l"], {"n": "number"}, [])
        # each kind counts, if a plan draws by it or not
        self.assertIsNone(table_apart(wide, ROW, ROW, 4))
        self.assertIsNone(table_apart(wide, BLOCK, BLOCK, 4))
        self.assertEqual(self.refused(TooLarge, table_apart, wide, both(BLOCK, KEY), BLOCK, 4).number, 4 ** 4 * 15 ** 3)
        self.assertEqual(self.refused(TooLarge, table_apart, wide, both(less(1), less(2), ROW), ROW, 4).number,
                         3 ** 4 * 15 ** 3)


class TestApart(Refusing):

    TABLE = Table(PLAIN, [(0, (1,), (), ()), (0, (2,), (), ())])
    ONE, OTHER = both(BLOCK, ROW), ("row", "a", QUARTER)
    CHANCES = ((1, 8), (1, 16))

    def test_attributes(self):
        chances = list(self.CHANCES)
        told = Apart(self.TABLE, chances)
        chances.clear()
        self.assertEqual((told.table, told.chances), (self.TABLE, self.CHANCES))

    def test_equal(self):
        told = Apart(self.TABLE, self.CHANCES)
        self.assertEqual(told, Apart(Table(PLAIN, list(self.TABLE.rows)), list(self.CHANCES)))
        for other in (Apart(Table(PLAIN, []), self.CHANCES), Apart(self.TABLE, self.CHANCES[::-1]), None, self.TABLE,
                      self.CHANCES):
            self.assertNotEqual(told, other)
            self.assertNotEqual(other, told)

    def test_shows(self):
        self.assertIs(Apart(self.TABLE, self.CHANCES).shows(PLAIN, self.ONE, self.OTHER), True)
        self.assertIs(Apart(self.TABLE, self.CHANCES[::-1]).shows(PLAIN, self.OTHER, self.ONE), True)
        wide = Table(PLAIN, [(0, (number,), (), ()) for number in range(6)])
        self.assertIs(Apart(wide, ((1, 128), (1, 4096))).shows(PLAIN, self.ONE, self.OTHER), True)

    def test_what_does_not_show(self):
        rows = self.TABLE.rows
        for table, chances in ((self.TABLE, self.CHANCES[::-1]), (self.TABLE, ((1, 8), (1, 8))),
                               (self.TABLE, ((1, 8),)), (self.TABLE, ()),
                               (self.TABLE, ((2, 16), (1, 16))), (self.TABLE, ((1, 8), (1, 16), (1, 16))),
                               (Table(PLAIN, rows[:1]), self.CHANCES), (Table(PLAIN, rows[:1]), (QUARTER, QUARTER)),
                               (Table(PLAIN, []), (ONE, ONE)), (Table(PLAIN, []), self.CHANCES),
                               (Table(PLAIN, [rows[0], (1, (2,), (), ())]), self.CHANCES),
                               (Table(Columns(["l"], {}, []), rows), self.CHANCES),
                               (Table(Columns(["k"], {}, ["x"]), []), self.CHANCES)):
            self.assertIs(Apart(table, chances).shows(PLAIN, self.ONE, self.OTHER), False)
        told = Apart(self.TABLE, self.CHANCES)
        for one, other in ((self.OTHER, self.ONE), (self.ONE, self.ONE), (BLOCK, self.OTHER), (self.ONE, ROW)):
            self.assertIs(told.shows(PLAIN, one, other), False)

    def test_errors(self):
        wrong = less(5)
        for table in (self.TABLE, Table(Columns([], {}, []), [])):
            told = Apart(table, self.CHANCES)
            self.assertEqual(self.refused(BadPlan, told.shows, PLAIN, wrong, 5).part, wrong)
            self.assertEqual(self.refused(BadPlan, told.shows, PLAIN, BLOCKS_7, 5).part, 5)
            self.assertEqual(self.refused(TooLarge, told.shows, PLAIN, BLOCKS_7, ROW).number, 7)
            self.assertEqual(self.refused(TooLarge, told.shows, PLAIN, ROW, BLOCKS_7).number, 7)

    def test_bound(self):
        wide = Table(PLAIN, [(number, (number % 17,), (), ()) for number in range(18)])
        told = Apart(wide, ((1, 2 ** 18), (1, 2 ** 17)))
        self.assertEqual(self.refused(TooLarge, told.shows, PLAIN, BLOCK, KEY).number, 2 ** 18)
        self.assertEqual(self.refused(TooLarge, told.shows, PLAIN, KEY, BLOCK).number, 2 ** 18)
        self.assertEqual(self.refused(TooLarge, told.shows, PLAIN, KEY, both(KEY, BLOCK)).number, 2 ** 35)
        self.assertIs(told.shows(PLAIN, ROW, KEY), True)
        self.assertIs(told.shows(PLAIN, KEY, ROW), False)

    def test_shows_of_random_tables(self):
        shuffled = random.Random(4)
        seen = [0, 0]
        for seed in range(60):
            plans = Plans(COLUMNS, seed, chances=(HALF,))
            one, other, table = plans.plan(2), plans.plan(2), plans.table(shuffled.choice((1, 2, 3)))
            every = tuple(range(len(table)))
            chances = tuple(chance_all(table, plan, every) for plan in (one, other))
            told = Apart(table, chances).shows(COLUMNS, one, other)
            self.assertIs(told, chances[0] != chances[1])
            seen[told] += 1
        self.assertGreater(min(seen), 5)


if __name__ == "__main__":
    unittest.main()
