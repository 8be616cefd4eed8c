import itertools
import math
import unittest
from fractions import Fraction

from uprow.checks import is_fraction
from uprow.fractions import common_divisor, is_less, lowest, plus

HUGE = 2 ** 200 + 1


def pair(first, second=1):
    value = Fraction(first, second)
    return (value.numerator, value.denominator)


SOME = sorted({pair(top, bottom) for top in range(-7, 8) for bottom in range(1, 7)})
SOME += [pair(HUGE, 3), pair(-HUGE, 2 ** 70), pair(1, HUGE), pair(-5, HUGE * 7)]


class Fractions(unittest.TestCase):
    def test_common_divisor(self):
        values = list(range(-30, 31)) + [HUGE, -HUGE, HUGE * 12, 2 ** 90]
        for one, other in itertools.product(values, values):
            self.assertEqual(common_divisor(one, other), math.gcd(one, other), (one, other))

    def test_lowest_terms(self):
        for top in list(range(-40, 41)) + [HUGE * 6, -HUGE * 6]:
            for bottom in list(range(1, 40)) + [HUGE * 10]:
                self.assertEqual(lowest(top, bottom), pair(top, bottom), (top, bottom))

    def test_lowest_of_nothing_is_zero_by_one(self):
        self.assertEqual(lowest(0, 12), (0, 1))

    def test_plus_is_in_lowest_terms(self):
        for one, other in itertools.product(SOME, SOME):
            told = plus(one, other)
            self.assertEqual(told, pair(Fraction(*one) + Fraction(*other)), (one, other))
            self.assertTrue(is_fraction(told))

    def test_plus_where_the_sum_is_smaller_than_its_bottoms(self):
        self.assertEqual(plus((1, 6), (1, 3)), (1, 2))
        self.assertEqual(plus((1, 6), (-1, 6)), (0, 1))
        self.assertEqual(plus((1, 6), (5, 6)), (1, 1))

    def test_is_less(self):
        for one, other in itertools.product(SOME, SOME):
            self.assertIs(is_less(one, other), Fraction(*one) < Fraction(*other), (one, other))

    def test_is_fraction(self):
        for value in SOME + [(0, 1), (-1, 1), (HUGE, 1)]:
            self.assertIs(is_fraction(value), True, value)

    def test_is_no_fraction(self):
        wrong = [None, 1, "1/2", "12", [1, 2], (), (1,), (1, 2, 3), (2, 4), (-2, 4), (0, 2), (0, 0), (1, 0),
                 (1, -1), (-1, -2), (0, -1), (True, 1), (1, True), (False, 1), (1.0, 2), (1, 2.0), ("1", 2),
                 (1, None), Fraction(1, 2), (HUGE * 2, HUGE), {1: 2}, {1, 2}, ((1, 2), (1, 2))]
        for value in wrong:
            self.assertIs(is_fraction(value), False, value)


if __name__ == "__main__":
    unittest.main()
