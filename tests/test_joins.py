import unittest
from fractions import Fraction

from evensieve.errors import BadPlan, TooLarge
from evensieve.joins import judge_join, join_chance, shows_join
from evensieve.measures import measures
from evensieve.same import Same, Unlike
from evensieve.sieveerrors import BadKey
from evensieve.tables import Columns, Table
from tests.oracles import Plans, Refusing, both, cut, either, joined_law, joined_rows, negated, pair

HALF, THIRD, QUARTER, SIXTH = (1, 2), (1, 3), (1, 4), (1, 6)
NOUGHT, ONE = (0, 1), (1, 1)
PLAIN = Columns(["k"], {}, [])
ASKED = Columns(["k"], {"n": "number"}, [])
FIRST, SECOND = Columns(["l", "k"], {"n": "number"}, []), Columns(["k", "m"], {}, ["x"])
ROW, BLOCK, KEY = ("row", "s", HALF), ("block", "s", HALF), ("hash", "k", "s", HALF)
ALL, NONE, LESS = ("all",), ("none",), ("less", "n", 5)
BLOCKS_7 = ("or", tuple(("block", "a", (number, 7)) for number in range(1, 7)))


class Joins(Refusing):

    def check_errors(self, call):
        """The errors of what takes two columns, a key and two pairs of plans."""
        wrong, other = ("less", "t", 5), ("hash", "z", "a", HALF)
        good, large = (ROW, ROW), (BLOCKS_7, ROW)
        for key in ("l", "m", "n", "x", "z", "", "K", "key k", None, 5, ("k",), ["k"], {"k": 1}, b"k", True):
            self.assertEqual(self.refused(BadKey, call, FIRST, SECOND, key, (wrong, wrong), large).key, key)
        for first, second, part in (((wrong, other), (5, 6), wrong), ((ROW, other), (5, 6), other), (good, (5, 6), 5),
                                    (good, (ROW, 6), 6), (large, (BLOCKS_7, LESS), LESS), ((ROW, LESS), good, LESS),
                                    ((("hash", "m", "a", HALF), ROW), good, ("hash", "m", "a", HALF)),
                                    ((ROW, ("hash", "l", "a", HALF)), good, ("hash", "l", "a", HALF))):
            self.assertEqual(self.refused(BadPlan, call, FIRST, SECOND, "k", first, second).part, part)
        self.assertEqual(self.refused(TooLarge, call, FIRST, SECOND, "k", (BLOCKS_7, ROW), good).number, 7)
        self.assertEqual(self.refused(TooLarge, call, FIRST, SECOND, "k", good, (ROW, BLOCKS_7)).number, 7)
        self.assertEqual(self.refused(TooLarge, call, FIRST, SECOND, "k", (ROW, BLOCKS_7), (both(
            cut(("block", "a"), 4), cut(("block", "b"), 2)), ROW)).number, 8)

    def check_bounds(self, call):
        """TooLarge by the states of the kinds of both tables."""
        low, high = [either(*[("hash", "k", "s", (number, 7)) for number in row]) for row in ((1, 2, 3), (4, 5, 6))]
        two, three, six = [cut(("hash", "k", salt), many) for salt, many in (("a", 2), ("b", 3), ("c", 6))]
        blocks = cut(("block", "a"), 6)
        for first, second, number in (
                ((low, ALL), (ALL, high), 7), ((low, high), (ALL, ALL), 7), ((three, both(two, KEY)), (ALL, ALL), 12),
                ((six, two), (six, two), 12), ((blocks, both(two, blocks)), (ALL, ALL), 72),
                ((ALL, ALL), (blocks, both(two, blocks)), 72), ((both(blocks, two), cut(("block", "a"), 4)), (ALL, ALL),
                                                                48)):
            self.assertEqual(self.refused(TooLarge, call, FIRST, SECOND, "k", first, second).number, number)
        for first, second in (((low, ALL), (ALL, low)), ((both(two, KEY), ALL), (ALL, both(two, KEY))),
                              ((blocks, blocks), (ALL, ALL)),
                              ((six, blocks), (ALL, six)), ((both(blocks, three), KEY), (ALL, KEY))):
            call(FIRST, SECOND, "k", first, second)
        # the first kind comes first: "both", then those of the first table, then the second one's
        self.assertEqual(self.refused(TooLarge, call, FIRST, SECOND, "k", (both(blocks, three), both(blocks, KEY, two)),
                                      (ALL, ALL)).number, 12)


class TestJudgeJoin(Joins):

    def told(self, one, other, first, second, is_same, key="k"):
        for left, right in ((first, second), (second, first)):
            told = judge_join(one, other, key, left, right)
            self.assertIsInstance(told, Same if is_same else Unlike, (left, right))
            self.assertIs(shows_join(told, one, other, key, left, right), True)
            self.assertIs(shows_join(told, one, other, key, list(left), list(right)), True)
        return judge_join(one, other, key, first, second)

    def test_a_draw_from_the_common_key(self):
        placed = ((KEY, ALL), (ALL, KEY), (KEY, KEY))
        for first in placed:
            for second in placed:
                self.told(PLAIN, PLAIN, first, second, True)
                self.told(FIRST, SECOND, first, second, True)
                self.told(SECOND, FIRST, first, second, True)

    def test_a_draw_of_rows(self):
        told = self.told(PLAIN, PLAIN, (ROW, ALL), (ALL, ROW), False)
        self.assertEqual(told.chosen, {})
        self.told(PLAIN, PLAIN, (ROW, ALL), (ROW, ROW), False)
        self.told(PLAIN, PLAIN, (ROW, ALL), (("row", "t", HALF), ALL), True)
        self.told(PLAIN, PLAIN, (ROW, ROW), (("row", "t", HALF), ROW), True)

    def test_blocks_are_own_ones(self):
        self.told(PLAIN, PLAIN, (BLOCK, ALL), (ALL, BLOCK), False)
        self.told(PLAIN, PLAIN, (BLOCK, BLOCK), (BLOCK, ("block", "t", HALF)), True)
        self.told(PLAIN, PLAIN, (BLOCK, BLOCK), (BLOCK, BLOCK), True)
        self.assertEqual(judge_join(PLAIN, PLAIN, "k", (BLOCK, ALL), (ALL, BLOCK)),
                         Unlike(0, {"one block": (0, 1), "two block": (0,)}, (QUARTER, NOUGHT)))

    def test_other_keys_are_own_ones(self):
        columns = Columns(["k", "l"], {}, [])
        other = ("hash", "l", "s", HALF)
        self.told(columns, columns, (other, ALL), (ALL, other), False)
        self.told(columns, columns, (other, ALL), (ALL, other), True, "l")
        self.told(columns, columns, (other, other), (other, ("hash", "l", "t", HALF)), True)
        self.told(columns, columns, (other, other), (other, ("hash", "l", "t", HALF)), False, "l")
        told = judge_join(columns, columns, "k", (other, ALL), (ALL, other))
        self.assertEqual(sorted(told.chosen), ["one key l", "two key l"])
        told = judge_join(columns, columns, "k", (KEY, ALL), (other, ALL))
        self.assertEqual(sorted(told.chosen), ["both", "one key l"])

    def test_one_salt_is_one_draw(self):
        self.told(PLAIN, PLAIN, (KEY, KEY), (KEY, ("hash", "k", "t", HALF)), False)
        self.told(PLAIN, PLAIN, (KEY, ("hash", "k", "s", THIRD)), (ALL, ("hash", "k", "t", THIRD)), True)
        self.told(PLAIN, PLAIN, (KEY, ("hash", "k", "t", HALF)), (("hash", "k", "s", QUARTER), ALL), True)
        self.told(PLAIN, PLAIN, (KEY, negated(KEY)), (NONE, ALL), True)

    def test_dead_states(self):
        # where the first table keeps nothing, it doesn't matter what the second one keeps
        inner = ("hash", "k", "t", HALF)
        self.told(PLAIN, PLAIN, (KEY, either(both(KEY, ROW), negated(KEY))), (KEY, ROW), True)
        self.told(PLAIN, PLAIN, (KEY, either(both(KEY, ROW), both(negated(KEY), BLOCK))), (ALL, both(KEY, ROW)), True)
        self.told(PLAIN, PLAIN, (KEY, either(both(KEY, ROW), negated(KEY))),
                  (ALL, either(both(KEY, ROW), negated(KEY))), False)
        self.told(PLAIN, PLAIN, (either(KEY, inner), both(KEY, inner)), (ALL, both(KEY, inner)), True)
        self.told(PLAIN, PLAIN, (either(KEY, inner), ROW), (ALL, both(either(KEY, inner), ROW)), True)
        self.told(PLAIN, PLAIN, (NONE, ROW), (ALL, NONE), True)
        self.told(PLAIN, PLAIN, (NONE, ROW), (NONE, BLOCK), True)
        self.told(PLAIN, PLAIN, (NONE, ALL), (ALL, ALL), False)

    def test_types(self):
        # a state is dead only if all types have nothing there
        asked = either(both(LESS, KEY), both(negated(LESS), ROW))
        self.told(ASKED, PLAIN, (asked, ALL), (asked, KEY), False)
        self.told(ASKED, PLAIN, (both(LESS, KEY), ALL), (LESS, KEY), True)
        self.told(ASKED, PLAIN, (both(LESS, KEY), ROW), (LESS, both(KEY, ROW)), True)
        self.told(ASKED, PLAIN, (both(LESS, ROW), ALL), (LESS, ROW), False)
        self.told(ASKED, ASKED, (LESS, ALL), (ALL, LESS), False)
        self.told(ASKED, ASKED, (LESS, both(LESS, KEY)), (both(KEY, LESS), LESS), True)

    def test_unlike_columns(self):
        first, second = ("hash", "l", "s", HALF), ("hash", "m", "s", HALF)
        self.told(FIRST, SECOND, (both(first, KEY), second), (first, both(second, KEY)), True)
        self.told(FIRST, SECOND, (first, ALL), (ALL, second), False)
        self.told(FIRST, SECOND, (both(first, BLOCK), ALL), (both(first, ("block", "t", HALF)), ALL), True)
        told = judge_join(FIRST, SECOND, "k", (both(first, KEY), second), (first, second))
        self.assertEqual(sorted(told.chosen), ["both", "one key l", "two key m"])

    def test_against_all_draws(self):
        seen, apart = [0, 0], 0
        other = Columns(["l", "k"], {"n": "number"}, [])
        shared = ("k",)
        for seed in range(60):
            ones, others = Plans(PLAIN, seed, chances=(HALF, QUARTER)), Plans(other, seed + 1000, chances=(HALF,))
            first, second = (ones.plan(2), others.plan(2)), (ones.plan(2), others.plan(2))
            further = ("hash", "k", "s", HALF)
            if seed % 3 == 0:
                first, second = (both(first[0], further), first[1]), (first[0], both(further, first[1]))
            if seed % 3 == 1:
                second = (first[0], both(first[0], first[1]) if set_of_kinds(first[0]) <= {"hash"} else first[1])
            if any(max(measures(own, plans)[:2]) > 4 for own, plans in zip((PLAIN, other), zip(first, second))):
                continue
            told = judge_join(PLAIN, other, "k", first, second)
            self.assertTrue(shows_join(told, PLAIN, other, "k", first, second))
            seen[bool(told)] += 1
            unlike = False
            for _ in range(2):
                tables = (ones.table(2), others.table(2))
                rows = [joined_law(tables, plans, shared) for plans in (first, second)]
                unlike = unlike or rows[0] != rows[1]
            apart += unlike
            self.assertFalse(told and unlike)
        self.assertGreater(min(seen), 8)
        self.assertGreater(apart, 0.8 * seen[False])

    def test_errors(self):
        self.check_errors(judge_join)

    def test_bounds(self):
        self.check_bounds(judge_join)

    def test_each_pair_has_its_own_draws(self):
        # by other salts, the pairs have three and six states of the common key, not eighteen together
        self.told(PLAIN, PLAIN, (cut(("hash", "k", "b"), 3), ALL), (ALL, cut(("hash", "k", "c"), 6)), False)
        self.told(PLAIN, PLAIN, (KEY, ALL), (ALL, ("hash", "k", "t", HALF)), True)


def set_of_kinds(plan):
    """The first words of all tests of a plan."""
    if plan[0] in ("row", "block", "hash"):
        return {plan[0]}
    inner = plan[1] if plan[0] in ("and", "or") else plan[1:] if plan[0] == "not" else ()
    return {kind for formula in inner for kind in set_of_kinds(formula)} or {"none"}


class TestShowsJoin(Joins):

    def test_what_does_not_show_of_a_same(self):
        first, second = (both(KEY, BLOCK), ALL), (BLOCK, KEY)
        told = judge_join(PLAIN, PLAIN, "k", first, second)
        self.assertEqual(told, Same({"both": (0, 1), "one block": (0, 1)}))
        for maps in ({}, {"both": (0, 1)}, {**told.maps, "two block": (0, 1)}, {**told.maps, "both": (1, 0)},
                     {**told.maps, "both": (0,)},
                     {**told.maps, "both": (0, 0)}, {**told.maps, "both": (0, 2)},
                     {"key k": (0, 1), "one block": (0, 1)},
                     {"both": (0, 1), "two block": (0, 1)}, {"both": (0, 1), "block": (0, 1)}):
            self.assertIs(shows_join(Same(maps), PLAIN, PLAIN, "k", first, second), False)
        for others in ((KEY, BLOCK), (ALL, BLOCK), (both(KEY, BLOCK), ROW),
                       (both(("hash", "k", "s", THIRD), BLOCK), ALL)):
            self.assertIs(shows_join(told, PLAIN, PLAIN, "k", first, others), False)
        self.assertIs(shows_join(told, PLAIN, PLAIN, "k", second, first), True)

    def test_what_does_not_show_of_an_unlike(self):
        first, second = (both(KEY, BLOCK), ROW), (BLOCK, ROW)
        told = judge_join(PLAIN, PLAIN, "k", first, second)
        self.assertEqual(told, Unlike(0, {"both": (0, 1), "one block": (0, 1)}, (SIXTEENTH, NOUGHT)))
        for changed in (Unlike(1, told.chosen, told.chances), Unlike(0, {"both": (0, 1)}, told.chances),
                        Unlike(0, {**told.chosen, "two block": (0,)}, told.chances),
                        Unlike(0, told.chosen, told.chances[::-1]),
                        Unlike(0, told.chosen, (SIXTEENTH, SIXTEENTH)),
                        Unlike(0, {**told.chosen, "both": (0, 2)}, told.chances),
                        Unlike(0, {**told.chosen, "both": ()}, told.chances)):
            self.assertIs(shows_join(changed, PLAIN, PLAIN, "k", first, second), False)
        self.assertIs(shows_join(told, PLAIN, PLAIN, "k", first, first), False)
        self.assertIs(shows_join(Unlike(1, told.chosen, told.chances[::-1]), PLAIN, PLAIN, "k", second, first), True)

    def test_errors(self):
        for told in (Same({}), Unlike(0, {}, (ONE, NOUGHT)), Same({"both": (0, 1)})):
            self.check_errors(lambda *args: shows_join(told, *args))
            self.check_bounds(lambda *args: shows_join(told, *args))


SIXTEENTH = (1, 16)


class TestJoinChance(Joins):

    def test_by_hand(self):
        for plans, chance in (((KEY, ALL), HALF), ((ALL, KEY), HALF), ((KEY, KEY), HALF), ((ROW, ROW), QUARTER),
                              ((ROW, KEY), QUARTER),
                              ((BLOCK, BLOCK), QUARTER), ((KEY, ("hash", "k", "t", THIRD)), SIXTH),
                              ((KEY, negated(KEY)), NOUGHT),
                              ((KEY, ("hash", "k", "s", THIRD)), THIRD), ((NONE, ALL), NOUGHT), ((ALL, ALL), ONE),
                              ((either(KEY, ROW), KEY), HALF), ((either(KEY, ROW), negated(KEY)), QUARTER)):
            self.assertEqual(join_chance(PLAIN, PLAIN, "k", plans), {(0, 0): chance})
            self.assertEqual(join_chance(PLAIN, PLAIN, "k", list(plans)), {(0, 0): chance})

    def test_types(self):
        told = join_chance(ASKED, ASKED, "k", (both(LESS, KEY), either(("is", "n", 3), both(LESS, KEY), ROW)))
        self.assertEqual(list(told), [(one, other) for one in (0, 1) for other in (0, 1, 2)])
        self.assertEqual(told, {(0, 0): NOUGHT, (0, 1): NOUGHT, (0, 2): NOUGHT, (1, 0): QUARTER, (1, 1): HALF,
                                (1, 2): HALF})

    def test_by_all_draws(self):
        one, other = ASKED, Columns(["l", "k"], {"n": "number"}, [])
        every = both(NONE, ("less", "n", 1), ("less", "n", 2))
        for seed in range(40):
            plans = (either(every, Plans(one, seed).plan(2)), either(every, Plans(other, seed + 500).plan(2)))
            chances = []
            for left in (2, 1, 0):
                for right in (2, 1, 0):
                    tables = (Table(one, [(0, (7,), (left,), ())]), Table(other, [(0, (3, 7), (right,), ())]))
                    self.assertEqual(joined_rows(tables, ("k",)), [(0, 0)])
                    told = joined_law(tables, plans, ("k",))
                    chances.append(pair(Fraction(told.get(((0, 0),), 0))))
            self.assertEqual(list(join_chance(one, other, "k", plans).values()), chances)

    def test_dead_states_make_no_difference(self):
        self.assertEqual(join_chance(PLAIN, PLAIN, "k", (KEY, either(both(KEY, ROW), negated(KEY)))), {(0, 0): QUARTER})

    def test_each_dict_is_new(self):
        join_chance(PLAIN, PLAIN, "k", (ROW, ROW)).clear()
        self.assertEqual(join_chance(PLAIN, PLAIN, "k", (ROW, ROW)), {(0, 0): QUARTER})

    def test_errors(self):
        wrong, other = ("less", "t", 5), ("hash", "z", "a", HALF)
        for key in ("l", "m", "z", None, ["k"]):
            self.assertEqual(self.refused(BadKey, join_chance, FIRST, SECOND, key, (wrong, 5)).key, key)
        for plans, part in (((wrong, other), wrong), ((ROW, other), other), ((BLOCKS_7, LESS), LESS)):
            self.assertEqual(self.refused(BadPlan, join_chance, FIRST, SECOND, "k", plans).part, part)
        self.assertEqual(self.refused(TooLarge, join_chance, FIRST, SECOND, "k", (BLOCKS_7, ROW)).number, 7)
        self.assertEqual(self.refused(TooLarge, join_chance, FIRST, SECOND, "k", (ROW, BLOCKS_7)).number, 7)
        self.check_bounds(lambda one, other, key, first, second: [join_chance(one, other, key,
                                                                              plans) for plans in (first, second)]
                          and judge_join(one, other, key, first, second))


if __name__ == "__main__":
    unittest.main()
