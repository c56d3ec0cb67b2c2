import unittest

from evensieve.errors import BadDraws, BadPlan
from evensieve.sieving import drawn, needed, sieve
from evensieve.tables import Columns, Table

COLUMNS = Columns(["k", "l"], {"n": "number", "t": "text"}, ["x"])
TABLE = Table(COLUMNS, [(7, (-5, 3), (1, "a"), (0,)), (2, (4, 3), (2, "b"), (0,)), (7, (4, -5), (3, "ab"), (0,))])
EMPTY = Table(COLUMNS, [])
HALF = (1, 2)
ROW, BLOCK = ("row", "a", HALF), ("block", "a", HALF)
HASH_K, HASH_L = ("hash", "k", "a", HALF), ("hash", "l", "a", HALF)
PRIME = 2147483647


class TestNeeded(unittest.TestCase):

    def test_no_tests(self):
        for plans in ([], (), [("all",)], [("less", "n", 3), ("not", ("none",))]):
            self.assertEqual(needed(TABLE, plans), ())

    def test_rows(self):
        self.assertEqual(needed(TABLE, [ROW]), (("row", "a", 0), ("row", "a", 1), ("row", "a", 2)))

    def test_blocks(self):
        self.assertEqual(needed(TABLE, [BLOCK]), (("block", "a", 2), ("block", "a", 7)))

    def test_keys(self):
        self.assertEqual(needed(TABLE, [HASH_K]), (("hash", "k", "a", -5), ("hash", "k", "a", 4)))
        self.assertEqual(needed(TABLE, [HASH_L]), (("hash", "l", "a", -5), ("hash", "l", "a", 3)))

    def test_all_kinds_in_ascending_order(self):
        told = (("block", "a", 2), ("block", "a", 7), ("hash", "k", "a", -5), ("hash", "k", "a", 4),
                ("hash", "l", "a", -5), ("hash", "l", "a", 3), ("row", "a", 0), ("row", "a", 1), ("row", "a", 2))
        for plans in ([ROW, HASH_L, BLOCK, HASH_K], (("and", (ROW, HASH_L, ("not", BLOCK), HASH_K)),)):
            self.assertEqual(needed(TABLE, plans), told)

    def test_numbers_of_rows_ascend_as_integers(self):
        table = Table(Columns([], {}, []), [(0, (), (), ())] * 12)
        self.assertEqual(needed(table, [ROW]), tuple(("row", "a", number) for number in range(12)))

    def test_no_doubles(self):
        plans = [BLOCK, ("block", "a", (1, 3)), ("and", (BLOCK, ("not", BLOCK)))]
        self.assertEqual(needed(TABLE, plans), (("block", "a", 2), ("block", "a", 7)))

    def test_salts(self):
        self.assertEqual(needed(TABLE, [("block", "b", HALF), BLOCK]),
                         (("block", "a", 2), ("block", "a", 7), ("block", "b", 2), ("block", "b", 7)))

    def test_all_tests_look_whatever_else_is_asked(self):
        for plan in (("and", (("none",), BLOCK)), ("or", (("all",), BLOCK)), ("and", (("less", "n", -9), BLOCK)),
                     ("block", "a", (0, 1)), ("block", "a", (1, 1))):
            self.assertEqual(needed(TABLE, [plan]), (("block", "a", 2), ("block", "a", 7)))

    def test_empty_table(self):
        self.assertEqual(needed(EMPTY, [ROW, BLOCK, HASH_K]), ())


class TestSieve(unittest.TestCase):

    def test_without_tests(self):
        for plan, told in ((("all",), (0, 1, 2)), (("none",), ()), (("less", "n", 3), (0, 1)), (("is", "n", 2), (1,)),
                           (("like", "t", "a*"), (0, 2)), (("not", ("is", "t", "a")), (1, 2)),
                           (("and", (("like", "t", "a*"), ("less", "n", 2))), (0,)),
                           (("or", (("is", "t", "b"), ("is", "n", 3))), (1, 2))):
            self.assertEqual(sieve(TABLE, plan, {}), told)

    def test_below_at_and_above_a_threshold(self):
        for below, at, above in (((499, 1000), HALF, (501, 1000)), ((0, 1), HALF, (10 ** 30 - 1, 10 ** 30))):
            draws = {("row", "a", 0): below, ("row", "a", 1): at, ("row", "a", 2): above}
            self.assertEqual(sieve(TABLE, ROW, draws), (0,))
            self.assertEqual(sieve(TABLE, ("not", ROW), draws), (1, 2))

    def test_a_threshold_that_is_close(self):
        draws = {("row", "a", 0): (1, 3), ("row", "a", 1): (333, 1000), ("row", "a", 2): (10 ** 20, 3 * 10 ** 20 + 1)}
        self.assertEqual(sieve(TABLE, ("row", "a", (1, 3)), draws), (1, 2))

    def test_never_and_always(self):
        draws = {("row", "a", 0): (0, 1), ("row", "a", 1): HALF, ("row", "a", 2): (999, 1000)}
        self.assertEqual(sieve(TABLE, ("row", "a", (0, 1)), draws), ())
        self.assertEqual(sieve(TABLE, ("row", "a", (1, 1)), draws), (0, 1, 2))

    def test_blocks(self):
        self.assertEqual(sieve(TABLE, BLOCK, {("block", "a", 2): HALF, ("block", "a", 7): (1, 3)}), (0, 2))
        self.assertEqual(sieve(TABLE, BLOCK, {("block", "a", 2): (0, 1), ("block", "a", 7): (2, 3)}), (1,))

    def test_keys(self):
        draws = {("hash", "k", "a", -5): (0, 1), ("hash", "k", "a", 4): HALF,
                 ("hash", "l", "a", -5): (0, 1), ("hash", "l", "a", 3): HALF}
        self.assertEqual(sieve(TABLE, HASH_K, draws), (0,))
        self.assertEqual(sieve(TABLE, HASH_L, draws), (2,))
        self.assertEqual(sieve(TABLE, ("or", (HASH_K, HASH_L)), draws), (0, 2))

    def test_one_salt_is_one_draw(self):
        draws = {("row", "a", 0): (1, 4), ("row", "a", 1): (2, 5), ("row", "a", 2): (3, 5)}
        plan = ("and", (ROW, ("not", ("row", "a", (1, 3)))))
        self.assertEqual(sieve(TABLE, plan, draws), (1,))
        self.assertEqual(sieve(TABLE, ("and", (ROW, ("not", ROW))), draws), ())

    def test_all_together(self):
        draws = {key: (number + 1, 11) for number, key in enumerate(needed(TABLE, [ROW, BLOCK, HASH_K, HASH_L]))}
        plan = ("or", (("and", (BLOCK, ("row", "a", (8, 11)))), ("and", (HASH_K, ("less", "n", 3), ("not", HASH_L)))))
        self.assertEqual(sieve(TABLE, plan, draws), (0, 1))

    def test_empty_table(self):
        self.assertEqual(sieve(EMPTY, ("and", (ROW, BLOCK, HASH_K)), {}), ())

    def test_more_may_be_drawn_than_is_needed(self):
        draws = {("row", "a", number): (0, 1) for number in range(5)}
        draws[("row", "b", 0)] = "nothing"
        self.assertEqual(sieve(TABLE, ROW, draws), (0, 1, 2))

    def test_nothing_given_is_changed(self):
        draws = {("row", "a", number): (0, 1) for number in range(4)}
        sieve(TABLE, ROW, draws)
        self.assertEqual(draws, {("row", "a", number): (0, 1) for number in range(4)})
        self.assertEqual(len(TABLE), 3)


class TestWrongDraws(unittest.TestCase):

    def refused(self, key, plan, draws):
        with self.assertRaises(BadDraws) as caught:
            sieve(TABLE, plan, draws)
        self.assertEqual(caught.exception.key, key)

    def test_the_first_that_lacks(self):
        draws = {key: HALF for key in needed(TABLE, [ROW, BLOCK, HASH_K, HASH_L])}
        plan = ("and", (ROW, HASH_L, BLOCK, HASH_K))
        for key in needed(TABLE, [plan])[::-1]:
            draws.pop(key)
            self.refused(key, plan, draws)
        self.refused(("block", "a", 2), plan, {})

    def test_no_fractions_from_nothing_to_less_than_one(self):
        for value in ((1, 1), (-1, 2), (2, 4), (0, 2), (3, 2), [1, 2], (1,), (1, 2, 3), (1, 0), (-1, -2), 0, 1, True,
                      None, "1/2", 0.5, (False, 1), (0, True), ()):
            draws = {("row", "a", 0): (0, 1), ("row", "a", 1): value, ("row", "a", 2): value}
            self.refused(("row", "a", 1), ROW, draws)

    def test_the_first_that_is_wrong(self):
        draws = {("block", "a", 2): HALF, ("block", "a", 7): (1, 1), ("row", "a", 0): None}
        self.refused(("block", "a", 7), ("or", (ROW, BLOCK)), draws)
        draws[("block", "a", 7)] = (0, 1)
        self.refused(("row", "a", 0), ("or", (ROW, BLOCK)), draws)

    def test_draws_that_make_no_difference_are_needed(self):
        self.refused(("block", "a", 2), ("and", (("none",), BLOCK)), {})
        self.refused(("block", "a", 2), ("block", "a", (0, 1)), {})

    def test_keys_of_another_form(self):
        draws = {("row", "a", str(number)): HALF for number in range(3)}
        draws.update({("row", number): HALF for number in range(3)})
        self.refused(("row", "a", 0), ROW, draws)

    def test_wrong_plans_come_first(self):
        for plan in (("row", "a", (2, 4)), ["all"], ("hash", "m", "a", HALF), ("like", "n", "a")):
            for table in (TABLE, EMPTY):
                with self.assertRaises(BadPlan) as caught:
                    sieve(table, ("and", (BLOCK, ("not", plan))), {})
                self.assertEqual(caught.exception.part, plan)

    def test_plans_that_are_too_large(self):
        with self.assertRaises(BadPlan) as caught:
            sieve(TABLE, ("or", (("all",),) * 29 + (("none",),)), {})
        self.assertEqual(caught.exception.part, ("none",))


class TestDrawn(unittest.TestCase):
    """The numbers here come of the rule of [10], followed by another program."""

    def told(self, table, plan, seed, numbers):
        told = drawn(table, [plan], seed)
        self.assertEqual(told, {key: (above, PRIME) for key, above in numbers.items()})
        self.assertEqual(tuple(told), needed(table, [plan]))

    def table(self, block, key):
        return Table(Columns(["k", "key"], {}, []), [(block, (key, key), (), ())])

    def test_rows(self):
        one = self.table(0, 0)
        for seed, above in ((0, 1784928137), (1, 1132063407), (10 ** 21, 1541939240)):
            self.told(one, ROW, seed, {("row", "a", 0): above})
        many = Table(Columns([], {}, []), [(0, (), (), ())] * 60)
        for seed, above in ((0, 1117863944), (1, 1265447280), (10 ** 21, 702438356)):
            self.assertEqual(drawn(many, [ROW], seed)[("row", "a", 59)], (above, PRIME))

    def test_blocks(self):
        for seed, above in ((0, 1694128793), (1, 1022690668), (10 ** 21, 1193198788)):
            self.told(self.table(7, 0), BLOCK, seed, {("block", "a", 7): above})

    def test_keys(self):
        for seed, above in ((0, 473250658), (1, 834165652), (10 ** 21, 225326925)):
            self.told(self.table(0, -5), HASH_K, seed, {("hash", "k", "a", -5): above})
        for seed, above in ((0, 845065648), (1, 1117557279), (10 ** 21, 1781209470)):
            plan = ("hash", "key", "salt", HALF)
            self.told(self.table(0, 1000000), plan, seed, {("hash", "key", "salt", 1000000): above})

    def test_step_by_step(self):
        state = 5
        for number in (114, 111, 119, 32, 97, 32, 48):
            state = (state * 69069 + number + 1) % 2147483647
        self.told(self.table(0, 0), ROW, 5, {("row", "a", 0): (state * 16807 + 12345) % 2147483647})

    def test_seeds_count_by_their_rest(self):
        for seed in (0, 1, 77):
            for more in (PRIME, PRIME * 10 ** 30):
                self.assertEqual(drawn(TABLE, [ROW, HASH_L], seed), drawn(TABLE, [ROW, HASH_L], seed + more))

    def test_a_number_that_is_nothing(self):
        self.assertEqual(drawn(self.table(0, 0), [ROW], 1332356784), {("row", "a", 0): (0, 1)})

    def test_several_plans(self):
        plans = [ROW, ("not", BLOCK), HASH_K, ("row", "a", (1, 7))]
        for row in (list, tuple):
            told = drawn(TABLE, row(plans), 3)
            self.assertEqual(tuple(told), needed(TABLE, plans))
            for plan in plans:
                for key, number in drawn(TABLE, [plan], 3).items():
                    self.assertEqual(told[key], number)

    def test_nothing_to_draw(self):
        self.assertEqual(drawn(EMPTY, [ROW, BLOCK], 1), {})
        self.assertEqual(drawn(TABLE, [("all",)], 1), {})
        self.assertEqual(drawn(TABLE, [], 1), {})

    def test_each_dict_is_new(self):
        told = drawn(TABLE, [ROW], 1)
        told.clear()
        self.assertEqual(len(drawn(TABLE, [ROW], 1)), 3)

    def test_sieves_by_them(self):
        plan = ("or", (ROW, HASH_K))
        for seed in range(50):
            draws = drawn(TABLE, [plan], seed)
            kept = [number for number in range(3) if 2 * draws[("row", "a", number)][0] < PRIME
                    or 2 * draws[("hash", "k", "a", TABLE.entity(number, "key k"))][0] < PRIME]
            self.assertEqual(sieve(TABLE, plan, draws), tuple(kept))


if __name__ == "__main__":
    unittest.main()
