import unittest

from evensieve.measures import measures
from evensieve.tables import Columns

COLUMNS = Columns(["k", "l"], {"n": "number", "t": "text", "u": "text"}, [])


def chances(many):
    """So many different chances, neither 0 nor 1."""
    return [(1, below) for below in range(2, many + 2)]


def tests(test, many):
    """Plans that cut the draw of a test into so many parts and one more."""
    return [test + (chance,) for chance in chances(many)]


class TestMeasures(unittest.TestCase):

    def told(self, plans, numbers):
        self.assertEqual(measures(COLUMNS, plans), numbers)
        self.assertEqual(measures(COLUMNS, tuple(plans)), numbers)

    def test_no_tests_and_no_asks(self):
        for plans in ([], [("all",)], [("none",), ("not", ("all",))]):
            self.told(plans, (1, 1, 1, 0, 1))

    def test_columns_without_anything(self):
        self.assertEqual(measures(Columns([], {}, []), [("row", "a", (1, 2))]), (1, 1, 2, 0, 1))

    def test_rows(self):
        self.told(tests(("row", "a"), 3), (1, 1, 4, 0, 1))
        self.told(tests(("row", "a"), 3) + tests(("row", "b"), 2), (1, 1, 12, 0, 1))

    def test_blocks(self):
        self.told(tests(("block", "a"), 3), (4, 4, 1, 0, 1))
        self.told(tests(("block", "a"), 3) + tests(("block", "b"), 1), (8, 8, 1, 0, 1))

    def test_keys(self):
        self.told(tests(("hash", "k", "a"), 2), (3, 3, 1, 0, 1))
        self.told(tests(("hash", "k", "a"), 2) + tests(("hash", "k", "b"), 1), (6, 6, 1, 0, 1))
        self.told(tests(("hash", "k", "a"), 2) + tests(("hash", "l", "a"), 1), (6, 3, 1, 0, 1))
        self.told(tests(("hash", "k", "a"), 1) + tests(("hash", "l", "a"), 2), (6, 3, 1, 0, 1))

    def test_all_kinds(self):
        plans = (tests(("row", "a"), 4) + tests(("block", "a"), 1) + tests(("hash", "k", "a"), 2)
                 + tests(("hash", "l", "a"), 3))
        self.told(plans, (24, 4, 5, 0, 1))
        self.told([("and", tuple(plans))], (24, 4, 5, 0, 1))

    def test_thresholds_count_once(self):
        self.told([("row", "a", (1, 2))] * 5, (1, 1, 2, 0, 1))
        self.told([("row", "a", (0, 1)), ("row", "a", (1, 1)), ("block", "a", (0, 1))], (1, 1, 1, 0, 1))

    def test_asks(self):
        asks = [("less", "n", 1), ("less", "n", 2), ("is", "n", 1), ("less", "n", 1)]
        self.told([("or", tuple(asks))], (1, 1, 1, 3, 1))
        self.told(asks, (1, 1, 1, 3, 1))

    def test_texts(self):
        self.told([("is", "t", "abc")], (1, 1, 1, 1, 5))
        self.told([("is", "t", "")], (1, 1, 1, 1, 2))
        self.told([("like", "t", "a*c")], (1, 1, 1, 1, 5))
        self.told([("like", "t", "a?c")], (1, 1, 1, 1, 10))
        self.told([("like", "t", "??*?")], (1, 1, 1, 1, 48))

    def test_signs_of_strings_are_no_patterns(self):
        self.told([("is", "t", "a?c")], (1, 1, 1, 1, 5))
        self.told([("is", "t", "???")], (1, 1, 1, 1, 5))

    def test_products_over_one_column(self):
        self.told([("is", "t", "abc"), ("like", "t", "a?")], (1, 1, 1, 2, 40))
        self.told([("is", "t", "abc"), ("like", "t", "abc")], (1, 1, 1, 2, 25))
        self.told([("is", "t", "abc"), ("is", "t", "abc")], (1, 1, 1, 1, 5))

    def test_the_greatest_column(self):
        asks = [("is", "t", "abc"), ("like", "t", "a?"), ("like", "u", "?????"), ("is", "n", 500)]
        self.told(asks, (1, 1, 1, 4, 224))
        self.told(asks[:2] + [("is", "u", "abcdefghijkl")], (1, 1, 1, 3, 40))

    def test_beyond_the_bounds_nothing_is_raised(self):
        plans = tests(("block", "a"), 6) + tests(("hash", "k", "a"), 6) + tests(("row", "a"), 64)
        plans += [("like", "t", "????????????"), ("like", "u", "*")] + [("less", "n", number) for number in range(5)]
        self.told(plans, (49, 7, 65, 7, 14 * 4096))

    def test_plans_are_not_changed(self):
        plans = tests(("row", "a"), 2)
        measures(COLUMNS, plans)
        self.assertEqual(plans, tests(("row", "a"), 2))


if __name__ == "__main__":
    unittest.main()
