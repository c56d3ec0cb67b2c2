import itertools
import unittest

from evensieve.errors import BadPlan, TooLarge
from evensieve.joins import judge_join
from evensieve.measures import measures
from evensieve.natural import judge_joined, shows_joined
from evensieve.same import Same, Unlike
from evensieve.sieveerrors import BadLists
from evensieve.tables import Columns
from tests.oracles import Plans, Refusing, both, cut, either, joined_law, negated

HALF, THIRD, QUARTER = (1, 2), (1, 3), (1, 4)
NOUGHT, ONE = (0, 1), (1, 1)
NO_KEY, K, L, KL, KM, LM = [Columns(names, {}, []) for names in ((), ("k",), ("l",), ("k", "l"), ("m", "k"),
                                                                 ("l", "m"))]
ASKED = Columns(["k"], {"n": "number"}, [])
ROW, BLOCK, KEY, OTHER = ("row", "s", HALF), ("block", "s", HALF), ("hash", "k", "s", HALF), ("hash", "l", "s", HALF)
KEY_L = ("hash", "l", "t", HALF)
ALL, NONE, LESS = ("all",), ("none",), ("less", "n", 5)
BLOCKS_7 = ("or", tuple(("block", "a", (number, 7)) for number in range(1, 7)))


class Joined(Refusing):

    def check_errors(self, call):
        """The errors of what takes columns and two lists of plans."""
        wrong, other = ("less", "t", 5), ("hash", "z", "a", HALF)
        for columns in (None, 5, [], [K], (K,), [K] * 5, {0: K, 1: K}, K, [K, None], [K, ("k",)], (K, K, 5), "kk"):
            self.assertIsNone(self.refused(BadLists, call, columns, [5], [wrong]).number)
        good = [ROW, ALL]
        for plans in (None, 5, [], [ROW], [ROW, ALL, ROW], (ROW,), "no", {0: ROW, 1: ALL}, {}):
            self.assertEqual(self.refused(BadLists, call, [K, K], plans, plans).number, 0)
            self.assertEqual(self.refused(BadLists, call, (K, K), [wrong, wrong], plans).number, 1)
        self.assertEqual(self.refused(BadLists, call, [K, K, K], good, good + [ALL]).number, 0)
        for one, two, part in (([wrong, other], [5, 6], wrong), ((ROW, other), (5, 6), other), (good, (5, 6), 5),
                               (good, (ROW, 6), 6),
                               ((BLOCKS_7, ROW), (BLOCKS_7, wrong), wrong), ((OTHER, ALL), good, OTHER),
                               ((ALL, KEY), good, KEY)):
            self.assertEqual(self.refused(BadPlan, call, [K, L], one, two).part, part)
        eight = both(cut(("block", "a"), 4), ("block", "b", HALF))
        for one, two, number in (((BLOCKS_7, ROW), good, 7), ((ALL, ALL), (ROW, BLOCKS_7), 7),
                                 ((ROW, BLOCKS_7), (eight, ROW), 8),
                                 ((ROW, eight), (ROW, BLOCKS_7), 20), ((ROW, eight), (BLOCKS_7, ROW), 7)):
            self.assertEqual(self.refused(TooLarge, call, [K, K], one, two).number, number)

    def check_bounds(self, call):
        """TooLarge by the states of the kinds of a list."""
        two, three = cut(("hash", "k", "a"), 2), cut(("hash", "k", "b"), 3)
        blocks, pairs = cut(("block", "a"), 6), cut(("block", "a"), 2)
        low, high = [either(*[("hash", "k", "s", (number, 7)) for number in row]) for row in ((1, 2, 3), (4, 5, 6))]
        tables = [K, KL, KM]
        for one, other, number in (
                ((low, high, ALL), (ALL, ALL, ALL), 7), ((low, ALL, ALL), (ALL, ALL, high), 7),
                                   ((three, two, KEY), (ALL, ALL, ALL), 12),
                ((ALL, ALL, ALL), (three, two, KEY), 12), ((blocks, blocks, pairs), (ALL, ALL, ALL), 72),
                ((blocks, both(pairs, OTHER), both(two, pairs)), (ALL, ALL, ALL), 96),
                # the blocks of all tables come ahead of the keys
                ((both(blocks, three), both(KEY, blocks), two), (ALL, ALL, ALL), 12)):
            self.assertEqual(self.refused(TooLarge, call, tables, one, other).number, number)
        for one, other in (((blocks, blocks, ALL), (ALL, blocks, blocks)), ((three, two, ALL), (ALL, three, two)),
                           ((low, ALL, ALL), (ALL, low, low)), ((pairs, both(pairs, OTHER), both(pairs, two)),
                                                                (ALL, ALL, ALL))):
            call(tables, one, other)


class TestJudgeJoined(Joined):

    def told(self, columns, one, other, is_same):
        for row in (list, tuple):
            for left, right in ((one, other), (other, one)):
                told = judge_joined(row(columns), row(left), row(right))
                self.assertIsInstance(told, Same if is_same else Unlike, (left, right))
                self.assertIs(shows_joined(told, row(columns), row(left), row(right)), True)
        return judge_joined(columns, one, other)

    def test_example(self):
        columns = [Columns(("k",), {}, ()), Columns(("k", "l"), {}, ()), Columns(("l",), {}, ())]
        plans = (KEY, ALL, ("row", "s", THIRD))
        self.told(columns, plans, (ALL, KEY, ("row", "s", THIRD)), True)
        self.told(columns, plans, (KEY, ("row", "s", THIRD), ALL), False)

    def test_a_draw_from_a_common_key_stands_anywhere(self):
        for columns in ([K, K], [K, KL, KM], [KL, LM, KM, K], [K, NO_KEY, K]):
            homes = [at for at, own in enumerate(columns) if "k" in own.hashed]
            placed = [tuple(KEY if at in row else ALL for at in range(len(columns)))
                      for size in range(1, len(homes) + 1) for row in itertools.combinations(homes, size)]
            for one in placed[:3]:
                for other in placed:
                    self.told(columns, one, other, True)
            self.told(columns, placed[0], (ALL,) * len(columns), False)

    def test_own_draws_stand_where_they_are(self):
        for draw in (ROW, BLOCK):
            self.told([K, KL, L], (draw, ALL, ALL), (ALL, draw, ALL), False)
            self.told([K, KL, L], (draw, ALL, ALL), (ALL, ALL, draw), False)
            self.told([K, KL, L], (draw, ALL, ALL), (draw[:1] + ("t",) + draw[2:], ALL, ALL), True)
        self.told([K, K], (BLOCK, BLOCK), (BLOCK, ("block", "t", HALF)), True)

    def test_all_common_keys_join(self):
        # of two common keys each one is shared; judge_join shares one alone
        for draw in (KEY, OTHER, both(KEY, OTHER)):
            self.told([KL, KL], (draw, ALL), (ALL, draw), True)
        self.told([KL, KL], (both(KEY, OTHER), ALL), (OTHER, KEY), True)
        self.told([KL, KL], (KEY, ALL), (OTHER, ALL), False)

    def test_chains_and_rings(self):
        third = ("hash", "m", "s", HALF)
        chain = [K, KL, LM]
        self.told(chain, (KEY, OTHER, third), (ALL, both(KEY, OTHER), third), True)
        self.told(chain, (KEY, OTHER, third), (KEY, ALL, both(third, OTHER)), True)
        self.told(chain, (KEY, OTHER, ALL), (KEY, third_of(OTHER), ALL), False)
        ring = [KL, LM, KM]
        for first, second, last in itertools.product((0, 2), (0, 1), (1, 2)):
            plans = [[], [], []]
            plans[first].append(KEY)
            plans[second].append(OTHER)
            plans[last].append(third)
            plans = [ALL if not row else row[0] if len(row) == 1 else both(*row) for row in plans]
            self.told(ring, (KEY, OTHER, third), plans, True)
            self.told(ring, (KEY, OTHER, both(ROW, third)), plans, False)

    def test_tables_without_a_common_key(self):
        self.told([K, L], (KEY, OTHER), (KEY, OTHER), True)
        self.told([K, L], (KEY, ALL), (ALL, OTHER), False)
        self.told([NO_KEY, NO_KEY], (ROW, BLOCK), (negated(ROW), negated(BLOCK)), True)
        self.told([NO_KEY, NO_KEY], (ROW, BLOCK), (BLOCK, ROW), False)
        self.told([NO_KEY, NO_KEY, K, L], (NONE, ROW, ALL, ALL), (ALL, ALL, KEY, both(OTHER, negated(OTHER))), True)

    def test_live_and_dead_states(self):
        split = either(both(KEY, ROW), both(negated(KEY), BLOCK))
        self.told([K, K], (KEY, split), (ALL, both(KEY, ROW)), True)
        self.told([K, NO_KEY, K], (KEY, ALL, split), (KEY, ALL, ROW), True)
        self.told([K, NO_KEY, K], (KEY, ROW, split), (KEY, ALL, ROW), False)
        self.told([K, KL, L], (KEY, split, OTHER), (ALL, both(KEY, ROW, OTHER), ALL), True)
        # the middle table keeps nothing where the last one keeps something
        self.told([K, KL, L], (ROW, OTHER, negated(OTHER)), (NONE, BLOCK, KEY_L), True)
        self.told([K, KL, L], (ROW, both(KEY, OTHER), either(OTHER, ROW)), (both(KEY, ROW), OTHER, ALL), True)
        # where no row of the middle table has both keys
        meet = either(both(KEY, negated(OTHER)), both(negated(KEY), OTHER))
        self.told([K, KL, L], (KEY, meet, either(OTHER, ROW)), (KEY, negated(OTHER), ROW), True)
        self.told([K, KL, L], (KEY, meet, either(OTHER, ROW)), (KEY, negated(OTHER), ALL), False)

    def test_blocks_may_make_states_live(self):
        plan = either(both(KEY, BLOCK), both(negated(KEY), BLOCK, negated(BLOCK)))
        self.told([K, K], (plan, either(KEY, ROW)), (both(KEY, BLOCK), ALL), True)
        self.told([K, K], (plan, ROW), (BLOCK, both(KEY, ROW)), True)

    def test_types(self):
        asked = either(both(LESS, KEY), both(negated(LESS), negated(KEY)))
        self.told([ASKED, K], (asked, KEY), (both(LESS, KEY), ALL), True)
        self.told([ASKED, K], (asked, ALL), (both(LESS, KEY), ALL), False)
        self.told([ASKED, ASKED, K], (both(LESS, KEY), LESS, ALL), (LESS, LESS, KEY), True)
        self.told([ASKED, ASKED, K], (LESS, ALL, KEY), (ALL, LESS, KEY), False)

    def test_the_kinds(self):
        told = judge_joined([KL, KM], (both(BLOCK, KEY), ("hash", "m", "s", HALF)),
                            (both(BLOCK, KEY), ("hash", "m", "s", THIRD)))
        self.assertEqual(sorted(told.chosen), ["0 block", "key k", "key m"])
        told = judge_joined([NO_KEY, NO_KEY, NO_KEY, NO_KEY], (ALL, BLOCK, ALL, BLOCK), (BLOCK, ALL, ALL, BLOCK))
        self.assertEqual(sorted(told.chosen), ["0 block", "1 block", "3 block"])
        self.assertEqual(self.told([K, K], (both(KEY, BLOCK), ALL), (BLOCK, KEY), True),
                         Same({"0 block": (0, 1), "key k": (0, 1)}))

    def test_as_judge_join(self):
        one, other = Columns(["k"], {"n": "number"}, []), Columns(["m", "k"], {}, ["x"])
        seen = [0, 0]
        for seed in range(150):
            ones, others = Plans(one, seed, chances=(HALF, QUARTER)), Plans(other, seed + 1000, chances=(HALF,))
            first, second = (ones.plan(2), others.plan(2)), (ones.plan(2), others.plan(2))
            if seed % 2:
                first, second = (both(first[0], KEY), first[1]), (first[0], both(first[1], KEY))
            try:
                told = judge_join(one, other, "k", first, second)
            except TooLarge as error:
                self.assertEqual(self.refused(TooLarge, judge_joined, [one, other], first, second).number, error.number)
                continue
            self.assertEqual(bool(told), bool(judge_joined([one, other], first, second)))
            seen[bool(told)] += 1
        self.assertGreater(min(seen), 20)

    def test_against_all_draws(self):
        seen, apart = [0, 0], 0
        for seed in range(90):
            columns = ([K, KL, L], [K, K], [KL, KL], [NO_KEY, K, K])[seed % 4]
            sources = [Plans(own, 7 * seed + at, chances=(HALF,)) for at, own in enumerate(columns)]
            one = [source.plan(1) if len(columns) > 2 else source.plan(2) for source in sources]
            other = [source.plan(1) if seed % 3 == 0 else plan for source, plan in zip(sources, one)]
            if seed % 3:
                homes = [at for at, own in enumerate(columns) if "k" in own.hashed]
                one[homes[0]] = both(one[homes[0]], KEY)
                other[homes[-1]] = both(KEY, other[homes[-1]])
            if any(max(measures(own, plans)[:2]) > 4 for own, plans in zip(columns, zip(one, other))):
                continue
            told = self.told(columns, one, other, bool(judge_joined(columns, one, other)))
            seen[bool(told)] += 1
            unlike = False
            for _ in range(2):
                tables = [source.table(2, blocks=2, keys=2) for source in sources]
                unlike = unlike or joined_law(tables, one, ("k", "l")) != joined_law(tables, other, ("k", "l"))
            apart += unlike
            self.assertFalse(told and unlike)
        self.assertGreater(min(seen), 10)
        self.assertGreater(apart, 0.7 * seen[False])

    def test_errors(self):
        self.check_errors(judge_joined)

    def test_bounds(self):
        self.check_bounds(judge_joined)


def third_of(draw):
    return draw[:-1] + (THIRD,)


class TestShowsJoined(Joined):

    COLUMNS = [K, KL, L]

    def test_what_does_not_show_of_a_same(self):
        one, other = (both(KEY, BLOCK), OTHER, ROW), (BLOCK, both(KEY, OTHER), ROW)
        told = judge_joined(self.COLUMNS, one, other)
        self.assertEqual(told, Same({"0 block": (0, 1), "key k": (0, 1), "key l": (0, 1)}))
        for kind in told.maps:
            for states in ((1, 0), (0,), (0, 0), (0, 2), (0, 1, 2)):
                self.assertIs(shows_joined(Same({**told.maps, kind: states}), self.COLUMNS, one, other), False)
            fewer = {own: states for own, states in told.maps.items() if own != kind}
            self.assertIs(shows_joined(Same(fewer), self.COLUMNS, one, other), False)
            self.assertIs(shows_joined(Same({**fewer, "1 block": (0, 1)}), self.COLUMNS, one, other), False)
        for plans in ((BLOCK, OTHER, ROW), (BLOCK, both(KEY, OTHER), ALL), (BLOCK, both(third_of(KEY), OTHER), ROW)):
            self.assertIs(shows_joined(told, self.COLUMNS, one, plans), False)
        self.assertIs(shows_joined(told, tuple(self.COLUMNS), other, one), True)

    def test_what_does_not_show_of_an_unlike(self):
        one, other = (KEY, ALL, ROW), (ROW, ALL, ALL)
        told = judge_joined(self.COLUMNS, one, other)
        self.assertEqual(told, Unlike(0, {"key k": (0, 1)}, (QUARTER, NOUGHT)))
        for changed in (Unlike(1, told.chosen, told.chances), Unlike(0, {}, told.chances),
                        Unlike(0, {"key l": (0, 1)}, told.chances),
                        Unlike(0, {"key k": (0, 1), "0 block": (0,)}, told.chances),
                        Unlike(0, {"key k": (0, 2)}, told.chances),
                        Unlike(0, told.chosen, told.chances[::-1]), Unlike(0, told.chosen, (QUARTER, QUARTER))):
            self.assertIs(shows_joined(changed, self.COLUMNS, one, other), False)
        self.assertIs(shows_joined(told, self.COLUMNS, one, one), False)
        self.assertIs(shows_joined(Unlike(0, {"key k": (0, 1, 1)}, ((1, 8), NOUGHT)), self.COLUMNS, one, other), True)

    def test_errors(self):
        for told in (Same({}), Unlike(0, {}, (ONE, NOUGHT))):
            self.check_errors(lambda *args: shows_joined(told, *args))
            self.check_bounds(lambda *args: shows_joined(told, *args))


class TestNothingIsChanged(unittest.TestCase):

    def test_lists(self):
        columns, one, other = [K, K], [KEY, ALL], [ALL, KEY]
        told = judge_joined(columns, one, other)
        shows_joined(told, columns, one, other)
        self.assertEqual((columns, one, other), ([K, K], [KEY, ALL], [ALL, KEY]))
        told.maps.clear()
        self.assertEqual(judge_joined(columns, one, other), Same({"key k": (0, 1)}))


if __name__ == "__main__":
    unittest.main()
