import itertools
import random
import unittest

from evensieve.arrays import array_chance, array_of
from evensieve.errors import BadPlan, TooLarge
from evensieve.fractions import lowest
from evensieve.kernels import Kernel, kernel_of
from evensieve.laws import law_of
from evensieve.measures import measures
from evensieve.reduced import matchings, reduced
from evensieve.same import Same, Unlike, classes_of, judge_pair, judge_same
from evensieve.tables import Columns
from tests.oracles import Plans, Refusing, both, either, negated
from tests.test_reduced import all_maps, grid, line, moved, same

COLUMNS = Columns(["k"], {"n": "number"}, ["x"])
HALF, THIRD, QUARTER, TWO_THIRDS = (1, 2), (1, 3), (1, 4), (2, 3)
NOUGHT, ONE = (0, 1), (1, 1)
ROW, BLOCK, KEY = ("row", "a", HALF), ("block", "a", HALF), ("hash", "k", "a", HALF)
ALL, NONE, LESS = ("all",), ("none",), ("less", "n", 5)
BLOCKS_7 = ("or", tuple(("block", "a", (number, 7)) for number in range(1, 7)))
MANY = 10 ** 6


def kernels(one, other, columns=COLUMNS):
    return tuple(reduced(kernel_of(columns, (one, other), at))[0] for at in (0, 1))


def shares(*numbers):
    """Weights in these proportions."""
    return tuple(lowest(number, sum(numbers)) for number in numbers)


def diagonal(weights, others):
    """A kernel whose rows are kept where two states have the same number."""
    rows = [[ONE if at == place else NOUGHT for place in range(len(others))] for at in range(len(weights))]
    return Kernel({"a": weights, "b": others}, [grid(("a", "b"), rows)])


# Pairs of plans that keep rows alike and are written otherwise.
ALIKE = (
    (both(ROW, ("row", "b", HALF)), ("row", "a", QUARTER)),
    (BLOCK, negated(BLOCK)),
    (BLOCK, ("block", "b", HALF)),
    (KEY, negated(("hash", "k", "c", HALF))),
    (both(BLOCK, ROW), both(("row", "b", HALF), ("block", "c", HALF))),
    (both(BLOCK, KEY, ROW), both(KEY, ROW, BLOCK)),
    (either(BLOCK, KEY), negated(both(BLOCK, KEY))),
    (("block", "a", QUARTER), both(BLOCK, ("block", "b", HALF))),
    (("block", "a", THIRD), either(("block", "a", (1, 6)), both(("block", "a", THIRD),
                                                                negated(("block", "a", (1, 6)))))),
    (("row", "a", (3, 4)), either(ROW, ("row", "b", HALF))),
    (both(("row", "a", HALF), ("row", "b", THIRD), KEY), both(("row", "b", HALF), ("row", "a", THIRD),
                                                              ("hash", "k", "b", HALF))),
    (either(both(BLOCK, ROW), both(negated(BLOCK), ("row", "a", THIRD))),
     either(both(BLOCK, ("row", "a", THIRD)), both(negated(BLOCK), ROW))),
    (either(both(LESS, ROW), both(negated(LESS), BLOCK)), either(both(LESS, ("row", "b", HALF)),
                                                                 both(negated(LESS), BLOCK))),
    (ALL, ("block", "a", ONE)), (NONE, both(BLOCK, negated(BLOCK))), (NONE, ("hash", "k", "a", NOUGHT)),
    (either(LESS, negated(LESS)), ALL), (both(LESS, ("less", "n", 7)), LESS),
)

# Pairs of plans that do not.
UNLIKE = (
    (ROW, BLOCK), (ROW, KEY), (BLOCK, KEY), (ROW, ("row", "a", THIRD)), (ALL, NONE), (ALL, LESS), (LESS, negated(LESS)),
    (both(BLOCK, ROW), ("row", "a", QUARTER)),
    (both(BLOCK, KEY), both(BLOCK, ("block", "b", HALF))),
    (("block", "a", THIRD), ("block", "a", TWO_THIRDS)),
    (either(BLOCK, KEY), either(BLOCK, ROW)),
    (either(both(LESS, BLOCK), both(negated(LESS), BLOCK)), either(both(LESS, BLOCK),
                                                                   both(negated(LESS), ("block", "b", HALF)))),
    (either(both(LESS, BLOCK), both(negated(LESS), negated(BLOCK))), BLOCK),
)


class TestJudgeSame(Refusing):

    def alike(self, one, other, columns=COLUMNS):
        told = judge_same(columns, one, other)
        self.assertIsInstance(told, Same, (one, other))
        self.assertIs(bool(told), True)
        self.assertIs(told.shows(columns, one, other), True)
        self.assertIs(told.shows_kernels(kernels(one, other, columns)), True)
        self.assertIn(told.maps, matchings(*kernels(one, other, columns), True, MANY))
        return told

    def unlike(self, one, other, columns=COLUMNS):
        told = judge_same(columns, one, other)
        self.assertIsInstance(told, Unlike, (one, other))
        self.assertIs(bool(told), False)
        self.assertIs(told.shows(columns, one, other), True)
        pair = kernels(one, other, columns)
        self.assertIs(told.shows_kernels(list(pair)), True)
        self.assertIn(told.which, (0, 1))
        self.assertEqual(set(told.chosen), set(pair[0].kinds()) | set(pair[1].kinds()))
        array = array_of(pair[told.which], told.chosen)
        self.assertEqual(told.chances, tuple(array_chance(kernel, array) for kernel in pair))
        self.assertNotEqual(*told.chances)
        return told

    def test_example(self):
        columns = Columns(("k",), {}, ())
        half, quarter = (1, 2), (1, 4)
        twice = ("and", (("row", "s", half), ("row", "r", half)))
        self.assertIs(bool(judge_same(columns, twice, ("row", "s", quarter))), True)
        mixed = ("and", (("block", "s", half), ("row", "r", half)))
        told = judge_same(columns, mixed, twice)
        self.assertEqual((bool(told), told.shows(columns, mixed, twice)), (False, True))

    def test_plans_that_are_written_otherwise(self):
        for one, other in ALIKE:
            for first, second in ((one, other), (other, one), (one, one), (other, other)):
                self.alike(first, second)

    def test_plans_that_keep_rows_unlike(self):
        for one, other in UNLIKE:
            self.unlike(one, other)
            self.unlike(other, one)

    def test_maps(self):
        self.assertEqual(self.alike(BLOCK, negated(BLOCK)), Same({"block": (1, 0)}))
        self.assertEqual(self.alike(ROW, ROW), Same({}))
        self.assertEqual(self.alike(both(BLOCK, KEY), both(KEY, BLOCK)), Same({"block": (0, 1), "key k": (0, 1)}))
        self.assertEqual(self.alike(("block", "a", THIRD), negated(("block", "a", TWO_THIRDS))),
                         Same({"block": (1, 0)}))

    def test_rows_alone(self):
        self.assertEqual(self.unlike(ROW, ("row", "a", THIRD)).chosen, {})
        self.assertEqual(self.unlike(ALL, NONE), self.unlike(NONE, ALL))

    def test_equal_chances_of_single_rows(self):
        told = self.unlike(both(BLOCK, ROW), ("row", "a", QUARTER))
        self.assertEqual(sorted(told.chosen), ["block"])
        self.assertEqual(self.unlike(BLOCK, ROW).chances[1], NOUGHT)
        self.assertEqual(self.unlike(ROW, BLOCK).chances[0], NOUGHT)

    def test_matchings_none_of_which_keeps_weights(self):
        for one, other in ((("block", "a", THIRD), ("block", "a", TWO_THIRDS)), (("block", "a", THIRD), BLOCK),
                           (either(both(BLOCK, ("hash", "k", "a", THIRD)),
                                   both(negated(BLOCK), negated(("hash", "k", "a", THIRD)))),
                            either(both(("block", "a", THIRD), KEY),
                                   both(negated(("block", "a", THIRD)), negated(KEY))))):
            pair = kernels(one, other)
            self.assertEqual(matchings(*pair, True, MANY), [])
            self.assertNotEqual(matchings(*pair, False, MANY), [])
            told = self.unlike(one, other)
            self.all_states_and_few(told, pair)

    def all_states_and_few(self, told, pair):
        """All states are chosen, and no more further ones than the document tells of."""
        most = 2 * len(matchings(pair[told.which], pair[told.which], False, MANY)) - 1
        further = 0
        for kind, states in told.chosen.items():
            own = set(range(len(pair[told.which].weights.get(kind, (ONE,)))))
            self.assertEqual(set(states), own)
            further += len(states) - len(own)
        self.assertLessEqual(further, most)

    def test_other_numbers_of_states(self):
        three = either(("block", "a", THIRD), both(("block", "a", TWO_THIRDS), ROW))
        self.assertEqual(self.unlike(BLOCK, three).which, 1)
        self.assertEqual(self.unlike(three, BLOCK).which, 0)
        self.unlike(three, either(("hash", "k", "a", THIRD), both(("hash", "k", "a", TWO_THIRDS), ROW)))
        self.unlike(both(three, KEY), both(BLOCK, either(("hash", "k", "a", THIRD),
                                                         both(("hash", "k", "a", TWO_THIRDS), ROW))))

    def test_types(self):
        named = Columns([], {"name": "text"}, [])
        like = ("like", "name", "a*")
        self.alike(either(both(like, ("block", "a", HALF)), both(("is", "name", "ab"), ROW)), both(like, either(
            ("block", "a", HALF), both(("is", "name", "ab"), ROW))), named)
        self.unlike(both(like, ROW), both(either(like, ("is", "name", "b")), ROW), named)
        # no text is both
        self.alike(both(("is", "name", "a"), ("is", "name", "b"), ROW), NONE, named)

    def test_several_keys(self):
        columns = Columns(["k", "l"], {}, [])
        one = ("hash", "l", "a", HALF)
        self.alike(both(KEY, one), both(one, KEY), columns)
        self.alike(either(both(KEY, one), ROW), either(ROW, both(negated(KEY), negated(one))), columns)
        self.unlike(KEY, one, columns)
        self.unlike(both(KEY, one), both(KEY, ("hash", "k", "b", HALF)), columns)

    def test_against_laws(self):
        seen, apart = [0, 0], 0
        for seed in range(150):
            plans = Plans(COLUMNS, seed, chances=(HALF, QUARTER))
            one, other = plans.plan(2), plans.plan(2)
            if seed % 3 == 0:
                other = turned(one)
            if max(measures(COLUMNS, (one, other))[:2]) > 6:
                continue
            told = judge_same(COLUMNS, one, other)
            self.assertIs(told.shows(COLUMNS, one, other), True)
            seen[bool(told)] += 1
            tables = [plans.table(rows, blocks=2, keys=2) for rows in (1, 2, 3, 3)]
            if told:
                for table in tables:
                    self.assertEqual(law_of(table, one), law_of(table, other))
            else:
                apart += any(law_of(table, one) != law_of(table, other) for table in tables)
        self.assertGreater(apart, 0.9 * seen[False])
        self.assertGreater(min(seen), 30)

    def test_the_same_both_ways(self):
        for seed in range(40):
            plans = Plans(COLUMNS, seed, chances=(HALF,))
            one, other = plans.plan(2), plans.plan(2)
            self.assertEqual(bool(judge_same(COLUMNS, one, other)), bool(judge_same(COLUMNS, other, one)))
            self.alike(one, turned(one))

    def test_errors(self):
        wrong, further = ("less", "t", 5), ("hash", "l", "a", HALF)
        calls = (judge_same, Same({}).shows, Unlike(0, {}, (ONE, NOUGHT)).shows, Unlike(7, {"z": ()}, ()).shows,
                 lambda columns, one, other: classes_of(columns, [one, other]))
        for call in calls:
            for one, other, part in ((wrong, further, wrong), (ROW, further, further),
                                     (BLOCKS_7, both(ROW, wrong), wrong),
                                     (5, wrong, 5), (ROW, None, None)):
                self.assertEqual(self.refused(BadPlan, call, COLUMNS, one, other).part, part)
            self.assertEqual(self.refused(TooLarge, call, COLUMNS, BLOCKS_7, ROW).number, 7)
            self.assertEqual(self.refused(TooLarge, call, COLUMNS, ROW, BLOCKS_7).number, 7)
            cut = either(("block", "a", (1, 7)), ("block", "a", (2, 7)), ("block", "a", (3, 7)))
            rest = either(("block", "a", (4, 7)), ("block", "a", (5, 7)), ("block", "a", (6, 7)))
            self.assertEqual(self.refused(TooLarge, call, COLUMNS, cut, rest).number, 7)


def turned(plan):
    """The plan with salts exchanged, and formulas in another order."""
    if plan[0] in ("row", "block"):
        return (plan[0], {"a": "b", "b": "a"}[plan[1]], plan[2])
    if plan[0] == "hash":
        return plan[:2] + ({"a": "b", "b": "a"}[plan[2]], plan[3])
    if plan[0] == "not":
        return ("not", turned(plan[1]))
    if plan[0] in ("and", "or"):
        return (plan[0], tuple(turned(formula) for formula in plan[1][::-1]))
    return plan


class TestSame(unittest.TestCase):

    def test_attributes(self):
        maps = {"block": (0, 1)}
        told = Same(maps)
        maps.clear()
        self.assertEqual(told.maps, {"block": (0, 1)})
        self.assertIs(bool(Same({})), True)

    def test_equal(self):
        told = Same({"block": (0, 1), "key k": (1, 0)})
        self.assertEqual(told, Same({"key k": (1, 0), "block": (0, 1)}))
        for other in (Same({}), Same({"block": (0, 1)}), Same({"block": (1, 0), "key k": (1, 0)}), None, told.maps,
                      Unlike(0, told.maps, (ONE, NOUGHT))):
            self.assertNotEqual(told, other)
            self.assertNotEqual(other, told)

    def test_what_does_not_show(self):
        one = both(either(("block", "a", THIRD), both(("block", "a", HALF), ROW)), KEY)
        right = judge_same(COLUMNS, one, one).maps
        self.assertEqual(right, {"block": (0, 1, 2), "key k": (0, 1)})
        for maps in ({}, {"block": (0, 1, 2)}, {"key k": (0, 1)}, {**right, "key l": (0, 1)}, {**right, "row": ()},
                     {**right, "block": (0, 2, 1)}, {**right, "block": (0, 1)}, {**right, "block": (0, 1, 1)},
                     {**right, "block": (0, 1, 3)}, {**right, "block": (0, 1, 2, 3)}, {**right, "block": (-3, 1, 2)},
                     {**right, "block": ()}, {**right, "key k": (1, 0)}, {**right, "key k": (0, 1, 2)},
                     {"block": (0, 1, 2), "key l": (0, 1)}, {**right, "key k": (False, True)},
                     {**right, "key k": (0, "1")},
                     {**right, "key k": None}):
            self.assertIs(Same(maps).shows(COLUMNS, one, one), False, maps)

    def test_weights_count(self):
        told = Same({"block": (0, 1)})
        self.assertIs(told.shows(COLUMNS, BLOCK, BLOCK), True)
        self.assertIs(told.shows(COLUMNS, ("block", "a", THIRD), ("block", "b", THIRD)), True)
        self.assertIs(told.shows(COLUMNS, BLOCK, ("block", "a", THIRD)), False)
        self.assertIs(told.shows(COLUMNS, BLOCK, negated(BLOCK)), False)
        self.assertIs(Same({"block": (1, 0)}).shows(COLUMNS, BLOCK, negated(BLOCK)), True)
        self.assertIs(told.shows(COLUMNS, BLOCK, KEY), False)
        self.assertIs(told.shows(COLUMNS, BLOCK, both(BLOCK, LESS)), False)

    def test_each_matching_that_keeps_weights_shows(self):
        kernel = diagonal(same(3), same(3))
        shown = [maps for maps in itertools.product(itertools.permutations(range(3)), repeat=2)
                 if Same(dict(zip("ab", maps))).shows_kernels((kernel, kernel))]
        self.assertEqual(shown, [(maps, maps) for maps in itertools.permutations(range(3))])

    def test_kernels_with_other_functions(self):
        one = Kernel({"a": same(2)}, [line("a", (ONE, HALF)), ((), {(): HALF})])
        self.assertTrue(Same({"a": (0, 1)}).shows_kernels((one, one)))
        for functions in ([line("a", (ONE, HALF))], [line("a", (ONE, HALF)), ((), {(): ONE})],
                          [line("a", (ONE, HALF)), line("a", (HALF, HALF))],
                          [line("a", (ONE, HALF)), ((), {(): HALF})] * 2):
            other = Kernel({"a": same(2)}, functions)
            self.assertIs(Same({"a": (0, 1)}).shows_kernels((one, other)), False)
            self.assertIs(Same({"a": (0, 1)}).shows_kernels((other, one)), False)


class TestUnlike(unittest.TestCase):

    def test_attributes(self):
        chosen, chances = {"block": (0, 1)}, [ONE, NOUGHT]
        told = Unlike(1, chosen, chances)
        chosen.clear()
        chances.clear()
        self.assertEqual((told.which, told.chosen, told.chances), (1, {"block": (0, 1)}, (ONE, NOUGHT)))
        self.assertIs(bool(told), False)

    def test_equal(self):
        told = Unlike(0, {"block": (0, 1)}, (ONE, NOUGHT))
        self.assertEqual(told, Unlike(0, {"block": (0, 1)}, [ONE, NOUGHT]))
        for other in (Unlike(1, {"block": (0, 1)}, (ONE, NOUGHT)), Unlike(0, {"block": (1, 0)}, (ONE, NOUGHT)),
                      Unlike(0, {}, (ONE, NOUGHT)), Unlike(0, {"block": (0, 1)}, (NOUGHT, ONE)), None, 0, told.chosen,
                      Same({"block": (0, 1)})):
            self.assertNotEqual(told, other)
            self.assertNotEqual(other, told)

    def test_what_does_not_show(self):
        one, other = both(("block", "a", THIRD), KEY), both(("block", "a", HALF), KEY)
        right = {"block": (0, 1), "key k": (0, 1)}
        told = judge_same(COLUMNS, one, other)
        self.assertEqual(told, Unlike(0, right, ((1, 18), (1, 16))))
        self.assertTrue(told.shows(COLUMNS, one, other))
        for changed in (Unlike(0, right, ((1, 16), (1, 18))), Unlike(0, right, ((1, 18), (1, 18))),
                        Unlike(0, right, ((1, 18),)),
                        Unlike(0, right, ()), Unlike(0, right, told.chances * 2), Unlike(0, right, ((2, 36), (1, 16))),
                        Unlike(0, right, (NOUGHT, (1, 16))), Unlike(2, right, told.chances),
                        Unlike(-1, right, told.chances)):
            self.assertIs(changed.shows(COLUMNS, one, other), False)
        for chosen in ({}, {"block": (0, 1)}, {"key k": (0, 1)}, {**right, "key l": (0,)}, {**right, "key k": ()},
                       {**right, "block": (0, 2)}, {**right, "block": (0, -1)}, {**right, "block": (0,)},
                       {**right, "block": (1,)},
                       {"block": (0, 1), "row": (0, 1)}, {**right, "block": (0, 1, 1)}):
            self.assertIs(Unlike(0, chosen, told.chances).shows(COLUMNS, one, other), False, chosen)

    def test_which_is_turned(self):
        three = either(("block", "a", THIRD), both(("block", "a", TWO_THIRDS), ROW))
        told = judge_same(COLUMNS, three, BLOCK)
        self.assertEqual(told.which, 0)
        self.assertIs(Unlike(1, told.chosen, told.chances).shows(COLUMNS, three, BLOCK), False)
        self.assertIs(Unlike(1, told.chosen, told.chances[::-1]).shows(COLUMNS, BLOCK, three), True)
        told = judge_same(COLUMNS, ROW, ALL)
        self.assertEqual(told, Unlike(0, {}, (ONE, NOUGHT)))
        self.assertIs(Unlike(1, {}, (ONE, NOUGHT)).shows(COLUMNS, ROW, ALL), False)
        self.assertIs(Unlike(1, {}, (NOUGHT, ONE)).shows(COLUMNS, ROW, ALL), True)

    def test_chances_that_are_alike(self):
        one, other = ("block", "a", THIRD), ("block", "a", TWO_THIRDS)
        self.assertIs(Unlike(0, {"block": (0, 1)}, ((2, 9), (2, 9))).shows(COLUMNS, one, other), False)
        self.assertIs(Unlike(0, {"block": (0,)}, (THIRD, TWO_THIRDS)).shows(COLUMNS, one, other), True)
        self.assertIs(Unlike(1, {"block": (0,)}, (THIRD, TWO_THIRDS)).shows(COLUMNS, one, other), True)
        self.assertIs(Unlike(0, {"block": (0, 0)}, ((1, 9), (4, 9))).shows(COLUMNS, one, other), True)
        self.assertIs(Unlike(1, {"block": (1, 1, 1)}, ((8, 27), (1, 27))).shows(COLUMNS, one, other), True)

    def test_kinds_that_one_of_both_has_alone(self):
        told = judge_same(COLUMNS, BLOCK, KEY)
        self.assertEqual(told, Unlike(0, {"block": (0, 1), "key k": (0,)}, (QUARTER, NOUGHT)))
        self.assertTrue(told.shows(COLUMNS, BLOCK, KEY))
        self.assertTrue(Unlike(0, {"block": (0, 1), "key k": (0, 0)}, (QUARTER, NOUGHT)).shows(COLUMNS, BLOCK, KEY))
        for chosen in ({"block": (0, 1)}, {"block": (0, 1), "key k": (1,)}, {"block": (0, 1), "key k": (0, 1)}):
            self.assertIs(Unlike(0, chosen, (QUARTER, NOUGHT)).shows(COLUMNS, BLOCK, KEY), False)

    def test_behind_other_plans(self):
        told = judge_same(COLUMNS, BLOCK, ("block", "a", THIRD))
        self.assertTrue(told.shows(COLUMNS, ("block", "b", HALF), ("block", "b", THIRD)))
        for one, other in ((("block", "a", THIRD), BLOCK), (BLOCK, BLOCK), (BLOCK, KEY), (ROW, ROW),
                           (BLOCK, both(BLOCK, LESS))):
            self.assertIs(told.shows(COLUMNS, one, other), False)


class TestJudgePair(unittest.TestCase):

    def judged(self, one, other):
        """What is told of two kernels shows, and is what all maps tell."""
        told = judge_pair((one, other))
        self.assertIs(told.shows_kernels((one, other)), True)
        self.assertEqual(bool(told), all_maps(one, other, True) != [])
        return told

    def test_no_kinds(self):
        one, other = Kernel({}, [((), {(): HALF})]), Kernel({}, [((), {(): ONE})])
        self.assertEqual(self.judged(one, one), Same({}))
        self.assertEqual(self.judged(one, other), Unlike(0, {}, (ONE, NOUGHT)))
        self.assertEqual(judge_pair([Kernel({}, []), Kernel({}, [])]), Same({}))

    def test_one_kind(self):
        one = Kernel({"a": shares(3, 2, 1)}, [line("a", (NOUGHT, HALF, ONE))])
        other = Kernel({"a": shares(2, 1, 3)}, [line("a", (HALF, ONE, NOUGHT))])
        self.assertEqual(self.judged(one, other), Same({"a": (2, 0, 1)}))
        self.assertEqual(self.judged(other, one), Same({"a": (1, 2, 0)}))
        self.judged(one, Kernel({"a": shares(3, 1, 2)}, [line("a", (NOUGHT, HALF, ONE))]))
        self.judged(one, Kernel({"a": shares(3, 2, 1)}, [line("a", (NOUGHT, HALF, THIRD))]))
        self.judged(one, Kernel({"a": shares(3, 2)}, [line("a", (NOUGHT, HALF))]))

    def test_functions_that_hang_on_some_kinds_alone(self):
        functions = [line("a", (ONE, HALF)), line("b", (ONE, HALF, NOUGHT)), ((), {(): THIRD})]
        one = Kernel({"a": shares(1, 2), "b": shares(1, 2, 3)}, functions)
        turned_one = [line("a", (HALF, ONE)), line("b", (NOUGHT, ONE, HALF)), ((), {(): THIRD})]
        self.assertEqual(self.judged(one, Kernel({"a": shares(2, 1), "b": shares(3, 1, 2)}, turned_one)),
                         Same({"a": (1, 0), "b": (1, 2, 0)}))
        for weights in ({"a": shares(1, 2), "b": shares(3, 1, 2)}, {"a": shares(2, 1), "b": shares(3, 2, 1)}):
            self.assertIs(bool(self.judged(one, Kernel(weights, turned_one))), False)
        self.judged(one, Kernel(one.weights, functions[:2] + [((), {(): HALF})]))
        further = [line("a", (ONE, HALF)), grid(("a", "b"), [(ONE, HALF), (HALF, NOUGHT)])]
        for weights in (shares(1, 1), shares(1, 2), shares(2, 1)):
            self.judged(Kernel({"a": shares(1, 1), "b": shares(1, 2)}, further),
                        Kernel({"a": shares(1, 1), "b": weights}, further))

    def test_symmetric_kernels(self):
        even = shares(1, 1, 1)
        self.assertTrue(self.judged(diagonal(even, shares(1, 2, 3)), diagonal(even, shares(3, 1, 2))))
        rising = shares(1, 2, 3)
        self.assertTrue(self.judged(diagonal(rising, shares(3, 2, 1)), diagonal(shares(3, 1, 2), shares(1, 3, 2))))
        self.assertFalse(self.judged(diagonal(rising, rising), diagonal(rising, shares(3, 2, 1))))
        self.assertFalse(self.judged(diagonal(rising, rising), diagonal(rising, shares(1, 3, 2))))
        self.assertFalse(self.judged(diagonal(even, rising), diagonal(rising, even)))

    def test_weights_with_the_same_products_and_sums(self):
        # 1, 6, 6 and 2, 2, 9 have the same sum and the same product
        for one, other in ((shares(1, 6, 6), shares(2, 2, 9)), (shares(6, 1, 6), shares(9, 2, 2))):
            self.assertFalse(self.judged(diagonal(one, one), diagonal(other, other)))
            self.assertFalse(self.judged(diagonal(one, shares(1, 1, 1)), diagonal(other, shares(1, 1, 1))))
        # two values alone: what goes together makes the difference
        one, other = shares(1, 1, 2, 2), shares(1, 2, 1, 2)
        self.assertFalse(self.judged(diagonal(one, one), diagonal(one, other)))
        self.assertTrue(self.judged(diagonal(one, other), diagonal(other, one)))

    def test_points_that_only_several_coordinates_tell_apart(self):
        # states around a ring: matchings turn it, or turn it round
        rows = [[HALF if at == place else ONE if (at - place) % 6 in (1,
                                                                      5) else NOUGHT for place in range(6)] for at in range(6)]
        seen = 0
        for ones in itertools.combinations(range(6), 3):
            for others in ((0, 1, 2), (0, 1, 3), (0, 2, 4)):
                weights = [shares(*[2 if at in row else 1 for at in range(6)]) for row in (ones, others)]
                pair = [Kernel({"a": row, "b": same(6)}, [grid(("a", "b"), rows)]) for row in weights]
                told = judge_pair(pair)
                self.assertIs(told.shows_kernels(pair), True)
                self.assertEqual(bool(told), matchings(*pair, True, 1) != [])
                seen += not told and sum(len(states) for states in told.chosen.values()) > 13
        self.assertGreater(seen, 5)

    def test_many_symmetries(self):
        for one, other in (((1, 6, 7, 17, 18, 23), (2, 3, 11, 13, 21, 22)), ((1, 1, 1, 2, 2, 2), (1, 1, 1, 1, 2, 2))):
            pair = (diagonal(shares(*one), shares(*one)), diagonal(shares(*other), shares(*other)))
            told = judge_pair(pair)
            self.assertIs(bool(told), False)
            self.assertIs(told.shows_kernels(pair), True)
        numbers = (1, 2, 3, 4, 5, 6)
        for others in ((1, 2, 3, 4, 6, 5), (6, 5, 4, 3, 2, 1)):
            pair = (diagonal(shares(*numbers), shares(*numbers)), diagonal(shares(*numbers), shares(*others)))
            told = judge_pair(pair)
            self.assertIs(bool(told), False)
            self.assertIs(told.shows_kernels(pair), True)

    def test_other_kinds(self):
        one, other = Kernel({"a": same(2)}, [line("a", (ONE, HALF))]), Kernel({"b": same(2)}, [line("b", (ONE, HALF))])
        self.assertEqual(self.judged(one, other), Unlike(0, {"a": (0, 1), "b": (0,)}, (QUARTER, NOUGHT)))
        wide = Kernel({"a": same(2), "b": same(2)}, [grid(("a", "b"), [(ONE, HALF), (HALF, HALF)])])
        self.assertEqual(self.judged(one, wide).which, 1)
        self.assertEqual(self.judged(wide, other).which, 0)

    def test_random_kernels(self):
        shuffled = random.Random(3)
        seen = [0, 0]
        for seed in range(200):
            sizes = shuffled.choice([(2,), (3,), (2, 2), (2, 3), (3, 3), (2, 2, 2)])
            kinds = ("a", "b", "c")[:len(sizes)]
            weights = {kind: shares(*[shuffled.choice((1, 1, 2)) for _ in range(size)]) for kind,
                       size in zip(kinds, sizes)}
            functions = []
            for number in range(shuffled.choice((1, 1, 2))):
                own = tuple(kind for kind in kinds if number == 0 or shuffled.random() < 0.7)
                tuples = itertools.product(*[range(len(weights[kind])) for kind in own])
                functions.append((own, {states: shuffled.choice((ONE, NOUGHT)) for states in tuples}))
            kernel = reduced(Kernel(weights, functions))[0]
            other, maps = moved(kernel, seed)
            self.assertIs(bool(self.judged(kernel, other)), True)
            self.assertIs(Same(maps).shows_kernels((kernel, other)), True)
            further = {kind: tuple(shuffled.sample(row, len(row))) for kind, row in kernel.weights.items()}
            told = self.judged(kernel, Kernel(further, other.functions))
            seen[bool(told)] += 1
            if not told:
                self.assertIs(Unlike(told.which, told.chosen, told.chances[::-1]).shows_kernels((kernel, other)), False)
        self.assertGreater(min(seen), 20)


class TestClassesOf(Refusing):

    def test_several_plans(self):
        plans = [ROW, BLOCK, both(ROW, ROW), negated(BLOCK), KEY, ("row", "b", HALF), either(BLOCK, BLOCK), NONE, ROW]
        for row in (list, tuple):
            self.assertEqual(classes_of(COLUMNS, row(plans)), (0, 1, 0, 1, 4, 0, 1, 7, 0))
        self.assertEqual(classes_of(COLUMNS, []), ())
        self.assertEqual(classes_of(COLUMNS, [KEY]), (0,))

    def test_random_plans(self):
        for seed in range(15):
            plans = Plans(COLUMNS, seed, chances=(HALF,))
            row = [plans.plan(2) for _ in range(6)]
            told = classes_of(COLUMNS, row)
            for at, plan in enumerate(row):
                self.assertEqual(told[at], min(place for place in range(6) if judge_same(COLUMNS, row[place], plan)))

    def test_two_by_two(self):
        # all cuts together are too many, those of any two are not
        cuts = [either(*[("block", "a", (number, 11)) for number in row]) for row in ((1, 2), (3, 4), (5, 6), (7, 8),
                                                                                      (9, 10))]
        self.assertEqual(classes_of(COLUMNS, cuts), (0, 1, 2, 3, 4))

    def test_bad_plans_come_first(self):
        wrong, other = ("less", "t", 5), ("hash", "l", "a", HALF)
        for plans, part in (([wrong], wrong), ([ROW, ROW, other, wrong], other), ([BLOCKS_7, BLOCKS_7, wrong], wrong),
                            ([5], 5),
                            ([ROW, both(ROW, 7)], 7)):
            self.assertEqual(self.refused(BadPlan, classes_of, COLUMNS, plans).part, part)

    def test_too_large(self):
        self.assertEqual(self.refused(TooLarge, classes_of, COLUMNS, [ROW, KEY, BLOCKS_7]).number, 7)
        self.assertEqual(self.refused(TooLarge, classes_of, COLUMNS, [BLOCKS_7, KEY]).number, 7)


class TestNothingIsChanged(unittest.TestCase):

    def test_kernels_and_evidence(self):
        one, other = kernels(BLOCK, ("block", "a", THIRD))
        told = judge_pair((one, other))
        copied = Unlike(told.which, told.chosen, told.chances)
        told.chosen.clear()
        self.assertEqual(judge_pair((one, other)), copied)
        self.assertTrue(copied.shows_kernels((one, other)))
        maps = judge_pair((one, one))
        maps.maps.clear()
        self.assertEqual(judge_pair((one, one)), Same({"block": (0, 1)}))
        self.assertEqual((one, other), kernels(BLOCK, ("block", "a", THIRD)))


if __name__ == "__main__":
    unittest.main()
