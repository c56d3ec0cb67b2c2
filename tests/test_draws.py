import unittest
from itertools import product

from evensieve.draws import holds_at, lengths, tests_in, thresholds
from evensieve.fractions import total

HALF, THIRD, FIFTH = (1, 2), (1, 3), (1, 5)
ROW, BLOCK, HASH = ("row", "a"), ("block", "a"), ("hash", "k", "a")
ALL_TESTS = ("and", (("row", "a", HALF), ("or", (("hash", "l", "a", THIRD), ("not", ("hash", "k", "a", FIFTH)))),
                     ("block", "a", HALF), ("row", "b", HALF), ("less", "n", 5), ("all",)))


class TestTestsIn(unittest.TestCase):

    def test_none(self):
        for plans in ([], (), [("all",)], [("none",), ("not", ("like", "t", "a"))], (("less", "n", 3),)):
            self.assertEqual(tests_in(plans), ())

    def test_the_same_salt_is_four_draws(self):
        tests = (("block", "a"), ("hash", "k", "a"), ("hash", "l", "a"), ("row", "a"), ("row", "b"))
        for plans in ([ALL_TESTS], (ALL_TESTS,), [ALL_TESTS, ALL_TESTS]):
            self.assertEqual(tests_in(plans), tests)

    def test_one_draw_with_many_thresholds(self):
        plan = ("or", (("row", "a", HALF), ("row", "a", THIRD), ("row", "a", HALF)))
        self.assertEqual(tests_in([plan]), (ROW,))

    def test_several_plans(self):
        plans = [("row", "b", HALF), ("not", ("row", "a", HALF)), ("block", "b", (0, 1))]
        self.assertEqual(tests_in(plans), (("block", "b"), ("row", "a"), ("row", "b")))


class TestThresholds(unittest.TestCase):

    def test_one(self):
        self.assertEqual(thresholds([("row", "a", HALF)], ROW), ((0, 1), HALF, (1, 1)))

    def test_ascending_by_size(self):
        plan = ("and", tuple(("row", "a", chance) for chance in ((2, 3), HALF, (99, 100), (1, 10), (3, 5), (1, 1000))))
        told = ((0, 1), (1, 1000), (1, 10), HALF, (3, 5), (2, 3), (99, 100), (1, 1))
        self.assertEqual(thresholds([plan], ROW), told)

    def test_the_same_chance_twice(self):
        plan = ("and", (("row", "a", HALF), ("not", ("row", "a", HALF))))
        self.assertEqual(thresholds([plan, plan], ROW), ((0, 1), HALF, (1, 1)))

    def test_nothing_and_one(self):
        for chance in ((0, 1), (1, 1)):
            self.assertEqual(thresholds([("block", "a", chance)], BLOCK), ((0, 1), (1, 1)))
        plan = ("or", (("block", "a", (0, 1)), ("block", "a", THIRD), ("block", "a", (1, 1))))
        self.assertEqual(thresholds([plan], BLOCK), ((0, 1), THIRD, (1, 1)))

    def test_several_plans(self):
        plans = (("row", "a", HALF), ("not", ("row", "a", FIFTH)), ("row", "b", THIRD), ("block", "a", (3, 4)))
        self.assertEqual(thresholds(plans, ROW), ((0, 1), FIFTH, HALF, (1, 1)))

    def test_draws_of_the_same_salt_are_kept_apart(self):
        for test, chance in ((ROW, HALF), (("hash", "l", "a"), THIRD), (HASH, FIFTH), (("row", "b"), HALF)):
            self.assertEqual(thresholds([ALL_TESTS], test), ((0, 1), chance, (1, 1)))
        plan = ("and", (("hash", "a", "b", HALF), ("hash", "b", "a", THIRD)))
        self.assertEqual(thresholds([plan], ("hash", "a", "b")), ((0, 1), HALF, (1, 1)))


class TestLengths(unittest.TestCase):

    def test_between_thresholds(self):
        plan = ("or", (("row", "a", HALF), ("row", "a", THIRD)))
        self.assertEqual(lengths([plan], ROW), (THIRD, (1, 6), HALF))

    def test_one_part(self):
        self.assertEqual(lengths([("row", "a", (1, 1))], ROW), ((1, 1),))
        self.assertEqual(lengths([("row", "a", (0, 1))], ROW), ((1, 1),))

    def test_sum(self):
        plans = [("row", "a", (number, 97)) for number in (3, 50, 1, 96, 12)] + [("row", "a", (501, 1000))]
        told = lengths(plans, ROW)
        self.assertEqual(len(told), 7)
        self.assertEqual(total(told), (1, 1))
        self.assertEqual(told[:3], ((1, 97), (2, 97), (9, 97)))

    def test_as_many_as_thresholds_less_one(self):
        for test in tests_in([ALL_TESTS]):
            self.assertEqual(len(lengths([ALL_TESTS], test)), len(thresholds([ALL_TESTS], test)) - 1)


class TestHoldsAt(unittest.TestCase):

    def told(self, plan, answers=None, parts=None, plans=None):
        return holds_at([plan] if plans is None else plans, plan, answers or {}, parts or {})

    def test_all_and_none(self):
        self.assertIs(self.told(("all",)), True)
        self.assertIs(self.told(("none",)), False)

    def test_tests(self):
        for test in (ROW, BLOCK, HASH):
            plan = test + (THIRD,)
            self.assertIs(self.told(plan, parts={test: 0}), True)
            self.assertIs(self.told(plan, parts={test: 1}), False)

    def test_never_and_always(self):
        self.assertIs(self.told(("row", "a", (0, 1)), parts={ROW: 0}), False)
        self.assertIs(self.told(("row", "a", (1, 1)), parts={ROW: 0}), True)

    def test_asks(self):
        for ask in (("less", "n", 3), ("is", "n", 3), ("is", "t", "a"), ("like", "t", "a*")):
            for answer in (True, False):
                self.assertIs(self.told(ask, answers={ask: answer}), answer)

    def test_strings_that_are_words_elsewhere(self):
        for word in ("all", "none", "not", "and", "or", "row"):
            for ask in (("is", "t", word), ("like", "t", word)):
                self.assertEqual(tests_in([ask]), ())
                for answer in (True, False):
                    self.assertIs(self.told(ask, answers={ask: answer}), answer)

    def test_not_and_or(self):
        asks = [("is", "n", number) for number in range(3)]
        for answers in product((True, False), repeat=3):
            told = dict(zip(asks, answers))
            self.assertIs(self.told(("not", asks[0]), told), not answers[0])
            self.assertIs(self.told(("and", tuple(asks)), told), all(answers))
            self.assertIs(self.told(("or", tuple(asks)), told), any(answers))
            mixed = ("or", (("and", (asks[0], ("not", asks[1]))), ("not", ("or", (asks[1], asks[2])))))
            first, second, third = answers
            self.assertIs(self.told(mixed, told), (first and not second) or not (second or third))

    def test_one_test_with_two_thresholds(self):
        plan = ("and", (("row", "a", HALF), ("not", ("row", "a", THIRD))))
        self.assertEqual([self.told(plan, parts={ROW: part}) for part in range(3)], [False, True, False])

    def test_parts_are_those_of_all_plans(self):
        plan, other, third = ("row", "a", HALF), ("row", "a", THIRD), ("not", ("row", "a", (3, 4)))
        plans = [other, plan, third]
        for one, told in ((plan, [True, True, False, False]), (other, [True, False, False, False]),
                          (third, [False, False, False, True])):
            self.assertEqual([self.told(one, parts={ROW: part}, plans=plans) for part in range(4)], told)
        self.assertEqual([self.told(plan, parts={ROW: part}, plans=tuple(plans)) for part in (1, 2)], [True, False])

    def test_always_among_others(self):
        plans = [("row", "a", (1, 1)), ("row", "a", (0, 1)), ("row", "a", HALF)]
        for part in (0, 1):
            self.assertIs(self.told(plans[0], parts={ROW: part}, plans=plans), True)
            self.assertIs(self.told(plans[1], parts={ROW: part}, plans=plans), False)

    def test_each_draw_by_its_own_part(self):
        plan = ("or", (("and", (("row", "a", HALF), ("block", "a", HALF))), ("hash", "k", "a", HALF)))
        for row, block, key in product((0, 1), repeat=3):
            told = self.told(plan, parts={ROW: row, BLOCK: block, HASH: key, ("hash", "l", "a"): 0})
            self.assertIs(told, (row == 0 and block == 0) or key == 0)

    def test_more_may_be_given_than_is_needed(self):
        answers, parts = {("less", "n", 1): True, ("less", "n", 2): False}, {ROW: 1, BLOCK: 0}
        self.assertIs(self.told(("less", "n", 2), answers, parts), False)
        self.assertEqual((answers, parts), ({("less", "n", 1): True, ("less", "n", 2): False}, {ROW: 1, BLOCK: 0}))

    def test_a_plan_that_is_somewhat_too_deep(self):
        plan = ("row", "a", HALF)
        for _ in range(21):
            plan = ("not", plan)
        self.assertIs(self.told(plan, parts={ROW: 0}), False)


if __name__ == "__main__":
    unittest.main()
