import unittest
from fractions import Fraction

from evensieve.errors import BadPlan, TooLarge
from evensieve.natural import judge_joined
from evensieve.offers import reading
from evensieve.plans import checked_plan
from evensieve.pushes import Pushed, cheapest_push, pushes
from evensieve.sieveerrors import BadLists, BadPrices
from evensieve.tables import Columns, Table
from tests.oracles import Refusing, both, either, fraction, negated, pair

HALF, THIRD, QUARTER = (1, 2), (1, 3), (1, 4)
NO_KEY, K, L, KL, KM = [Columns(names, {}, []) for names in ((), ("k",), ("l",), ("k", "l"), ("m", "k"))]
ROW, BLOCK, KEY, OTHER = ("row", "s", HALF), ("block", "s", HALF), ("hash", "k", "s", HALF), ("hash", "l", "s", HALF)
ALL, NONE = ("all",), ("none",)
BLOCKS_7 = ("or", tuple(("block", "a", (number, 7)) for number in range(1, 7)))


def key(salt, chance=HALF):
    return ("hash", "k", salt, chance)


class TestPushes(Refusing):

    def told(self, columns, plans, found):
        for row in (list, tuple):
            told = pushes(row(columns), row(plans))
            self.assertIsInstance(told, list)
            self.assertEqual(told, found)
        for push in told:
            self.assertIsInstance(push, tuple)
            self.assertTrue(judge_joined(columns, plans, push))

    def test_example(self):
        columns = [Columns(("k",), {}, ()), Columns(("k", "l"), {}, ()), Columns(("l",), {}, ())]
        plans = (KEY, ALL, ("row", "s", THIRD))
        self.assertEqual(pushes(columns, plans)[1], (ALL, KEY, ("row", "s", THIRD)))
        self.told(columns, plans, [plans, (ALL, KEY, ("row", "s", THIRD))])

    def test_nothing_movable(self):
        for plans in ((ALL, ALL), (ROW, BLOCK), (NONE, ROW), (either(KEY, ROW), negated(KEY)),
                      (both(ROW, BLOCK), both(ALL, negated(KEY))),
                      (both(both(KEY, ROW), ROW), ALL), (negated(negated(KEY)), either(KEY, KEY)),
                      (both(NONE, NONE), both(ALL, ALL))):
            self.told([K, K], plans, [plans])
        self.told([K, L], (KEY, OTHER), [(KEY, OTHER)])
        self.told([KL, K, NO_KEY], (both(OTHER, ROW), ALL, ALL), [(both(OTHER, ROW), ALL, ALL)])

    def test_one_movable_draw(self):
        self.told([K, K], (KEY, ALL), [(KEY, ALL), (ALL, KEY)])
        self.told([K, K], (ALL, KEY), [(KEY, ALL), (ALL, KEY)])
        self.told([K, K], (KEY, KEY), [(KEY, ALL), (ALL, KEY)])
        self.told([K, K, K], (ALL, KEY, KEY), [(KEY, ALL, ALL), (ALL, KEY, ALL), (ALL, ALL, KEY)])
        self.told([K, NO_KEY, KL], (ROW, BLOCK, KEY), [(both(ROW, KEY), BLOCK, ALL), (ROW, BLOCK, KEY)])

    def test_own_formulas_come_first(self):
        self.told([K, K], (both(KEY, ROW, BLOCK), ROW), [(both(ROW, BLOCK, KEY), ROW),
                                                         (both(ROW, BLOCK), both(ROW, KEY))])
        self.told([K, K], (both(BLOCK, KEY, ROW, BLOCK), ALL), [(both(BLOCK, ROW, BLOCK, KEY), ALL),
                                                                (both(BLOCK, ROW, BLOCK), KEY)])
        self.told([K, K], (both(KEY, either(KEY, ROW)), NONE), [(both(either(KEY, ROW), KEY), NONE),
                                                                (either(KEY, ROW), both(NONE, KEY))])
        self.told([K, K], (both(ALL, KEY), ALL), [(both(ALL, KEY), ALL), (ALL, KEY)])
        self.told([K, K], (both(both(KEY, ROW), KEY), ALL), [(both(both(KEY, ROW), KEY), ALL), (both(KEY, ROW), KEY)])

    def test_an_and_of_draws_alone(self):
        one, other = key("a"), key("b")
        self.told([K, K], (both(other, one), ALL), [(both(one, other), ALL), (one, other), (other, one),
                                                    (ALL, both(one, other))])
        self.told([K, K], (both(one, one), ALL), [(one, ALL), (ALL, one)])

    def test_order(self):
        # ascending as tuples: by column, salt, and the two numbers of the chance
        draws = (key("a", (2, 3)), key("b", (1, 2)), key("b", (1, 3)), ("hash", "l", "a", HALF))
        told = pushes([K, KL, L], (both(draws[2], draws[0]), both(draws[3], draws[1]), ALL))
        places = [[[at for at,
                    plan in enumerate(push) if draw == plan or plan[0] == "and" and draw in plan[1]] for draw in draws]
                  for push in told]
        self.assertEqual(len(told), 16)
        self.assertEqual(places, sorted(places))
        self.assertEqual(places[0], [[0], [0], [0], [1]])
        self.assertEqual(places[-1], [[1], [1], [1], [2]])
        self.assertEqual(told[0], (both(*draws[:3]), draws[3], ALL))
        self.assertEqual(told[-1], (ALL, both(*draws[:3]), draws[3]))
        for push in told:
            self.assertTrue(judge_joined([K, KL, L], told[0], push))

    def test_the_same_draw_with_other_chances(self):
        self.told([K, K], (key("a"), key("a", THIRD)), [(both(key("a"), key("a", THIRD)), ALL),
                                                        (key("a"), key("a", THIRD)),
                                                       (key("a", THIRD), key("a")),
                                                        (ALL, both(key("a"), key("a", THIRD)))])

    def test_four_tables(self):
        told = pushes([K, KM, KL, K], (KEY, BLOCK, KEY, ROW))
        self.assertEqual(told, [(KEY, BLOCK, ALL, ROW), (ALL, both(BLOCK, KEY), ALL, ROW), (ALL, BLOCK, KEY, ROW),
                                (ALL, BLOCK, ALL, both(ROW, KEY))])

    def test_bound(self):
        salts = "abcdefgh"
        certain = [key(salt, (1, 1)) for salt in salts]
        six = pushes([K, K], (both(*certain[:6]), ALL))
        self.assertEqual(len(six), 64)
        for many in (7, 8):
            self.assertEqual(self.refused(TooLarge, pushes, [K, K], (both(*certain[:many]), ALL)).number, 128)
        self.assertEqual(len(pushes([K, K, K], (both(*certain[:3]), ALL, ALL))), 27)
        self.assertEqual(self.refused(TooLarge, pushes, [K, K, K], (both(*certain[:4]), ALL, ALL)).number, 81)
        self.assertEqual(self.refused(TooLarge, pushes, [K, K, K], (both(*certain[:5]), ALL, ALL)).number, 81)
        self.assertEqual(len(pushes([K, K, K, K], (both(*certain[:3]), ALL, ALL, ALL))), 64)
        self.assertEqual(self.refused(TooLarge, pushes, [K, K, K, K], (both(*certain), ALL, ALL, ALL)).number, 256)
        # the first ones, ascending: two at three tables each, then those at two tables
        wide = [K, KL, KL]
        draws = both(*[("hash", "l", salt, (1, 1)) for salt in "abcd"], *certain[:2])
        self.assertEqual(self.refused(TooLarge, pushes, wide, (ALL, draws, ALL)).number, 72)

    def test_pushes_that_are_no_plans(self):
        deep = KEY
        for _ in range(7):
            deep = negated(deep)
        self.assertEqual(checked_plan(K, deep), deep)
        found = self.refused(BadPlan, pushes, [K, K], (deep, key("a", THIRD))).part
        self.assertEqual(found, KEY)
        # behind an `and` it lies one deeper, at the first table or at the second one
        self.assertEqual(self.refused(BadPlan, pushes, [K, K], (key("a", THIRD), deep)).part, KEY)
        self.assertEqual(pushes([K, K], (deep, ROW)), [(deep, ROW)])

    def test_pushes_with_too_many_formulas(self):
        wide = either(*[ROW] * 27)
        plan = both(wide, key("a"))
        self.assertEqual(checked_plan(K, plan), plan)
        self.assertEqual(self.refused(BadPlan, pushes, [K, K], (plan, key("b"))).part, key("b"))
        self.assertEqual(self.refused(BadPlan, pushes, [K, K], (both(wide, key("b")), key("a"))).part, key("b"))
        self.assertEqual(len(pushes([K, K], (plan, ROW))), 2)
        self.assertEqual(len(pushes([K, K], (ALL, both(either(*[ROW] * 26), key("b"), key("a"))))), 4)

    def check_errors(self, call):
        wrong, other = ("less", "t", 5), ("hash", "z", "a", HALF)
        for columns in (None, [], [K], [K] * 5, [K, None], K, 5):
            self.assertIsNone(self.refused(BadLists, call, columns, [wrong]).number)
        for plans in (None, [], [ROW], [ROW, ROW, wrong], 5, {0: ROW, 1: ROW}, ROW[:1]):
            self.assertEqual(self.refused(BadLists, call, [K, K], plans).number, 0)
        for plans, part in (((wrong, other), wrong), ((BLOCKS_7, other), other), ((ALL, OTHER), OTHER)):
            self.assertEqual(self.refused(BadPlan, call, [K, K], plans).part, part)
        certain = [key(salt, (1, 1)) for salt in "abcdefg"]
        self.assertEqual(self.refused(TooLarge, call, [K, K], (both(BLOCKS_7, *certain), ALL)).number, 7)
        self.assertEqual(self.refused(TooLarge, call, [K, K], (both(key("a"), key("b")),
                                                               both(key("c"), key("d")))).number, 16)
        self.assertEqual(self.refused(TooLarge, call, [K, K], (both(*certain), ALL)).number, 128)

    def test_errors(self):
        self.check_errors(pushes)


class TestCheapestPush(Refusing):

    COLUMNS = [K, KL, L]
    TABLES = [Table(K, [(0, (1,), (), ()), (1, (2,), (), ())]), Table(KL,
                                                                      [(at // 2, (1, at % 3), (),
                                                                        ()) for at in range(6)]),
              Table(L, [(at, (at,), (), ()) for at in range(3)])]
    PLANS = (both(ROW, KEY), BLOCK, OTHER)
    PRICES = [(3, 1), (5, 2), (1, 0)]

    def told(self, columns, plans, tables, prices):
        """What is told is what the readings of all pushes tell."""
        told = cheapest_push(columns, plans, tables, prices)
        self.assertIsInstance(told, Pushed)
        costs = []
        for push in pushes(columns, plans):
            cost = Fraction(0)
            for own, plan, table, (block, row) in zip(columns, push, tables, prices):
                blocks, rows = reading(own, plan, table)
                cost += block * fraction(blocks) + row * fraction(rows)
            costs.append(cost)
        self.assertEqual(told.costs, tuple(pair(cost) for cost in costs))
        self.assertEqual(told.number, costs.index(min(costs)))
        self.assertIs(told.shows(columns, plans, tables, prices), True)
        return told

    def test_example(self):
        columns = [Columns(("k",), {}, ()), Columns(("k", "l"), {}, ()), Columns(("l",), {}, ())]
        plans = (KEY, ALL, ("row", "s", THIRD))
        small, large = Table(columns[0], [(0, (1,), (), ())]), Table(columns[1],
                                                                     [(at, (1, at), (), ()) for at in range(4)])
        told = cheapest_push(columns, plans, [small, large, Table(columns[2], [])], [(1, 0), (1, 0), (1, 0)])
        self.assertEqual(told.costs, ((9, 2), (3, 1)))
        self.assertEqual(told, Pushed(1, [(9, 2), (3, 1)]))

    def test_several_pushes(self):
        told = self.told(self.COLUMNS, self.PLANS, self.TABLES, self.PRICES)
        self.assertEqual(len(told.costs), 4)
        self.told(tuple(self.COLUMNS), list(self.PLANS), tuple(self.TABLES), tuple(self.PRICES))
        for prices in ([(0, 0), (0, 1), (9, 0)], [(100, 0), (0, 0), (0, 0)], [(0, 0), (100, 0), (0, 0)],
                       [(0, 0), (0, 0), (1000000, 1000000)]):
            self.told(self.COLUMNS, self.PLANS, self.TABLES, prices)

    def test_of_several_as_cheap_the_first(self):
        told = self.told(self.COLUMNS, self.PLANS, self.TABLES, [(0, 0)] * 3)
        self.assertEqual(told, Pushed(0, [(0, 1)] * 4))
        table = Table(K, [(0, (1,), (), ())])
        self.assertEqual(self.told([K, K], (KEY, ALL), [table, table], [(1, 0), (1, 0)]), Pushed(0, [(3, 2), (3, 2)]))
        self.assertEqual(self.told([K, K], (KEY, ALL), [table, table], [(1, 0), (2, 0)]), Pushed(1, [(5, 2), (2, 1)]))

    def test_one_push(self):
        self.assertEqual(self.told([K, L], (ROW, BLOCK), self.TABLES[:1] + self.TABLES[2:], [(1, 1), (2, 2)]),
                         Pushed(0, [(10, 1)]))
        self.assertEqual(self.told([K, L], (NONE, BLOCK), [Table(K, []), Table(L, [])], [(1, 1), (2, 2)]),
                         Pushed(0, [(0, 1)]))

    def test_many_pushes(self):
        draws = [key("a"), key("b", (2, 3)), key("c", (1, 1)), key("d", (1, 1)), key("e", (1, 1)), key("f", (1, 1))]
        tables = [Table(K, [(at % 5, (at % 4,), (), ()) for at in range(many)]) for many in (9, 14)]
        self.assertEqual(len(self.told([K, K], (both(*draws[:4]), both(*draws[4:])), tables, [(3, 1), (2, 1)]).costs),
                         64)

    def test_errors_as_pushes(self):
        call = TestPushes.check_errors
        call(self, lambda columns, plans: cheapest_push(columns, plans, [], None))
        call(self, lambda columns, plans: Pushed(0, [(0, 1)]).shows(columns, plans, [], None))

    def test_bad_prices(self):
        huge = Table(K, [(at, (at,), (), ()) for at in range(18)])
        columns, plans, tables = [K, K], (BLOCK, KEY), [huge, huge]
        for call in (cheapest_push, Pushed(0, [(0, 1)]).shows):
            for prices in (None, 5, [], [(1, 1)], [(1, 1)] * 3, {0: (1, 1), 1: (1, 1)}, "ab", ()):
                self.assertIsNone(self.refused(BadPrices, call, columns, plans, tables, prices).number)
            for wrong in (None, 5, (), (1,), (1, 1, 1), [1, 1], (True, 1), (1, False), (-1, 1), (1, 1000001), ("1", 1),
                          (None, 1), ((1, 2), 1)):
                self.assertEqual(self.refused(BadPrices, call, columns, plans, tables, [wrong, wrong]).number, 0)
                self.assertEqual(self.refused(BadPrices, call, columns, plans, tables, ((0, 1000000), wrong)).number, 1)
            self.assertEqual(self.refused(TooLarge, call, columns, plans, tables, [(1, 1)] * 2).number, 2 ** 36)
            self.assertEqual(self.refused(TooLarge, call, columns, (ROW, KEY), tables, [(1, 1)] * 2).number, 2 ** 18)
        # a draw that is pushed to a table may make it too large to look at
        small = Table(K, [(0, (1,), (), ())])
        for tables in ([huge, small], [small, huge]):
            self.assertEqual(self.refused(TooLarge, cheapest_push, columns, (KEY, ROW), tables, [(0, 0)] * 2).number,
                             2 ** 18)

    def test_too_many_states_of_a_common_key(self):
        # six states at one table, and two at the other one
        six = either(*[("hash", "k", "a", (number, 6)) for number in (1, 5)])
        table = Table(K, [(0, (1,), (), ())])
        self.assertEqual(self.refused(TooLarge, cheapest_push, [K, K], (both(six, key("c")), key("b")), [table] * 2,
                                      [(0, 0)] * 2).number, 12)


class TestPushed(unittest.TestCase):

    def test_attributes(self):
        costs = [(1, 2), (3, 1)]
        told = Pushed(0, costs)
        costs.clear()
        self.assertEqual((told.number, told.costs), (0, ((1, 2), (3, 1))))

    def test_equal(self):
        told = Pushed(0, [(1, 2), (3, 1)])
        self.assertEqual(told, Pushed(0, ((1, 2), (3, 1))))
        for other in (Pushed(1, [(1, 2), (3, 1)]), Pushed(0, [(1, 2)]), Pushed(0, [(3, 1), (1, 2)]), None, 0,
                      told.costs):
            self.assertNotEqual(told, other)
            self.assertNotEqual(other, told)

    def test_what_does_not_show(self):
        table = Table(K, [(0, (1,), (), ()), (1, (2,), (), ())])
        case = ([K, K], (KEY, ALL), [table, table], [(1, 0), (2, 0)])
        right = cheapest_push(*case)
        self.assertEqual(right, Pushed(1, [(5, 1), (4, 1)]))
        self.assertIs(Pushed(1, [(5, 1), (4, 1)]).shows(*case), True)
        for number, costs in ((0, right.costs), (2, right.costs), (None, right.costs), (1, right.costs[::-1]),
                              (1, right.costs[:1]),
                              (1, right.costs + right.costs), (1, ()), (1, ((5, 1), (8, 2))), (1, ((5, 1), (3, 1)))):
            self.assertIs(Pushed(number, costs).shows(*case), False)
        for changed in (([K, K], (KEY, ALL), [table, table], [(2, 0), (1, 0)]),
                        ([K, K], (KEY, ROW), [table, Table(K, [])], [(1, 0), (2, 0)]),
                        ([K, K], (key("s", THIRD), ALL), [table, table], [(1, 0), (2, 0)]),
                        ([K, K], (ROW, ALL), [table, table], case[3])):
            self.assertIs(right.shows(*changed), False)


if __name__ == "__main__":
    unittest.main()
