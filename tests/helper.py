"""What several tests need: wrong things to hand in, plain reckonings beside the program's, and how a refusal is met."""

import decimal
import itertools
import unittest
from fractions import Fraction

BIG = 2 ** 64
HUGE = 10 ** 5000

# Whatever is no list of whole numbers, whatever its length; each stands for a list of two.
NO_WHOLES = [
    None, True, False, 0, 2, 2.5, "", "12", b"12", (), (1, 2), {}, {1: 1, 2: 2}, {1, 2}, range(2), iter([1, 2]),
    object(), int, list, len, Fraction(1, 2), [1, None], [None, 1], [1, True], [False, 1], [1, 2.0], ["1", 2],
    ["12", "3"], [1, [2]], [[], []], [1, (2, 1)], [(1, 1), (2, 1)], [1, Fraction(2)], [1, decimal.Decimal(2)],
    [1, 2j], [float("nan"), 1], [1, float("inf")], [1, object()], [1, b"2"], [int, 1],
]

OTHER_LENGTHS = [[], [1], [1, 2, 3]]
LOW_WEIGHTS = [[0, 1], [1, 0], [1, -1], [-BIG, 1], [1, -HUGE]]

# Whatever is no whole number from 0 on.
NO_MOSTS = [
    -1, -2, -BIG, -HUGE, True, False, None, 0.0, 1.0, 2.5, float("nan"), float("inf"), "", "1", b"1", (), (1,), [], [1],
    {}, {1: 1}, {1}, range(1), object(), int, len, Fraction(1), Fraction(1, 2), decimal.Decimal(1), 1j, (1, 1),
]


def within_itself():
    wrong = [1]
    wrong.append(wrong)
    return wrong


def pairs(values):
    return [(Fraction(value).numerator, Fraction(value).denominator) for value in values]


def rises(row):
    return list(row) == sorted(row)


def rising_rows(low, high, count):
    return itertools.combinations_with_replacement(range(low, high + 1), count)


def rows_up_to(values, count):
    """Every list of these values, also the empty one, up to that length."""
    return [list(row) for length in range(count + 1) for row in itertools.product(values, repeat=length)]


def greatest_beside(numbers, row):
    return max((abs(number - stand) for number, stand in zip(numbers, row)), default=0)


def sum_beside(numbers, row, weights):
    return sum(weight * abs(number - stand) for number, stand, weight in zip(numbers, row, weights))


def squared_beside(numbers, weights):
    """The nearest row by squares, by the greatest of the least means over the stretches about each place."""
    def mean(begin, end):
        total = sum(number * weight for number, weight in zip(numbers[begin:end], weights[begin:end]))
        return Fraction(total, sum(weights[begin:end]))

    places = range(len(numbers))
    return pairs([
        max(min(mean(begin, end + 1) for end in places if end >= place) for begin in places if begin <= place)
        for place in places
    ])


class Refusing(unittest.TestCase):
    def refused(self, refusal, call, *handed):
        # The very class is asked for: of two faults, the one told first.
        with self.subTest(call=call.__name__, refusal=refusal.__name__):
            try:
                call(*handed)
            except Exception as error:
                self.assertIs(type(error), refusal)
            else:
                self.fail("nothing was refused")
