import unittest
from fractions import Fraction

from evensieve.fractions import is_fraction, is_less, lowest, minus, over, plus, product_of, times, total

HUGE = 10 ** 60 + 7
SOME = [(0, 1), (1, 1), (-1, 1), (1, 2), (-1, 2), (2, 3), (-7, 5), (9, 4), (HUGE, 2), (-1, HUGE), (3, 1000)]


def pair(fraction):
    return (fraction.numerator, fraction.denominator)


class TestLowest(unittest.TestCase):

    def test_lowest_terms(self):
        self.assertEqual(lowest(2, 4), (1, 2))
        self.assertEqual(lowest(3, 7), (3, 7))
        self.assertEqual(lowest(12, 4), (3, 1))

    def test_signs(self):
        self.assertEqual(lowest(-2, 4), (-1, 2))
        self.assertEqual(lowest(2, -4), (-1, 2))
        self.assertEqual(lowest(-2, -4), (1, 2))
        self.assertEqual(lowest(5, -1), (-5, 1))

    def test_nothing(self):
        for below in (1, -1, 9, -9, HUGE, -HUGE):
            self.assertEqual(lowest(0, below), (0, 1))

    def test_very_large(self):
        self.assertEqual(lowest(6 * HUGE, 4 * HUGE), (3, 2))
        self.assertEqual(lowest(HUGE, 1), (HUGE, 1))
        self.assertEqual(lowest(3 * HUGE, -9), (-HUGE, 3) if HUGE % 3 else (-HUGE // 3, 1))


class TestArithmetic(unittest.TestCase):

    def test_by_hand(self):
        self.assertEqual(plus((1, 2), (1, 3)), (5, 6))
        self.assertEqual(plus((1, 6), (1, 3)), (1, 2))
        self.assertEqual(minus((1, 2), (1, 3)), (1, 6))
        self.assertEqual(minus((1, 3), (1, 2)), (-1, 6))
        self.assertEqual(minus((1, 2), (1, 2)), (0, 1))
        self.assertEqual(times((2, 3), (3, 4)), (1, 2))
        self.assertEqual(times((0, 1), (-3, 4)), (0, 1))
        self.assertEqual(over((1, 2), (3, 4)), (2, 3))
        self.assertEqual(over((1, 2), (-3, 4)), (-2, 3))
        self.assertEqual(over((0, 1), (-3, 4)), (0, 1))

    def test_two_of_many(self):
        for one in SOME:
            for other in SOME:
                first, second = Fraction(*one), Fraction(*other)
                self.assertEqual(plus(one, other), pair(first + second))
                self.assertEqual(minus(one, other), pair(first - second))
                self.assertEqual(times(one, other), pair(first * second))
                self.assertIs(is_less(one, other), first < second)
                if other != (0, 1):
                    self.assertEqual(over(one, other), pair(first / second))

    def test_order(self):
        self.assertIs(is_less((1, 3), (1, 2)), True)
        self.assertIs(is_less((1, 2), (1, 3)), False)
        self.assertIs(is_less((1, 2), (1, 2)), False)
        self.assertIs(is_less((-1, 2), (-1, 3)), True)
        self.assertIs(is_less((-1, 2), (0, 1)), True)
        self.assertIs(is_less((HUGE, HUGE + 1), (HUGE + 1, HUGE + 2)), True)

    def test_arguments_can_be_named(self):
        self.assertEqual(lowest(above=2, below=4), (1, 2))
        for function in (plus, minus, times, over, is_less):
            function(one=(1, 2), other=(1, 3))
        self.assertEqual(total(rows=[(1, 2)]), product_of(rows=[(1, 2)]))


class TestRows(unittest.TestCase):

    def test_empty_rows(self):
        for rows in ([], ()):
            self.assertEqual(total(rows), (0, 1))
            self.assertEqual(product_of(rows), (1, 1))

    def test_lists_and_tuples(self):
        for rows in ([(1, 2), (1, 3), (-5, 6)], ((1, 2), (1, 3), (-5, 6))):
            self.assertEqual(total(rows), (0, 1))
            self.assertEqual(product_of(rows), (-5, 36))

    def test_one_row(self):
        self.assertEqual(total([(-3, 4)]), (-3, 4))
        self.assertEqual(product_of([(-3, 4)]), (-3, 4))

    def test_many(self):
        rows = [(1, number * (number + 1)) for number in range(1, 100)]
        self.assertEqual(total(rows), (99, 100))
        rows = [(number, number + 1) for number in range(1, 100)]
        self.assertEqual(product_of(rows), (1, 100))

    def test_rows_are_not_changed(self):
        rows = [(1, 2), (1, 3)]
        total(rows), product_of(rows)
        self.assertEqual(rows, [(1, 2), (1, 3)])


class TestIsFraction(unittest.TestCase):

    def test_fractions(self):
        for value in SOME:
            self.assertIs(is_fraction(value), True, value)

    def test_others(self):
        for value in ([1, 2], (1, 2, 3), (1,), (), 1, 0, True, None, "", "12", "1/2", b"12", {}, {1: 2}, {1, 2},
                      (True, 2), (1, True), (False, 1), (None, 1), (1, None), ("1", 2), (1, "2"), (1.0, 2), (1, 2.0),
                      0.5, ((1, 2), (1, 3)), [(1, 2)], Fraction(1, 2), object(), is_fraction):
            self.assertIs(is_fraction(value), False, value)

    def test_not_in_lowest_terms(self):
        for value in ((2, 4), (0, 2), (-3, 9), (5, 5), (HUGE * 2, HUGE)):
            self.assertIs(is_fraction(value), False, value)

    def test_nothing_or_less_below(self):
        for value in ((1, 0), (0, 0), (-1, 0), (1, -1), (1, -2), (0, -1), (-1, -2)):
            self.assertIs(is_fraction(value), False, value)


if __name__ == "__main__":
    unittest.main()
