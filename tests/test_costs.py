import copy
import itertools
import math
import sys
import unittest
from fractions import Fraction

from helper import BIG, HUGE, LOW_WEIGHTS, NO_WHOLES, OTHER_LENGTHS, Refusing, pairs, within_itself
from uprow.costs import greatest, squares, summed_up
from uprow.errors import BadNumbers, BadRow, BadWeights


def squares_beside(numbers, row, weights):
    total = Fraction(0)
    for number, stand, weight in zip(numbers, row, weights):
        total += weight * (number - Fraction(*stand)) ** 2
    return (total.numerator, total.denominator)


# Whatever is no list of fractions.
NO_FRACTIONS = [
    None, True, 0, 2.5, "", "12", (), ((1, 1), (2, 1)), {}, {(1, 1): 1, (2, 1): 1}, range(2), iter([(1, 1), (2, 1)]),
    object(), [1, 2], [(1, 1), 2], [(1, 1), None], [(1, 1), "11"], [(1, 1), [2, 1]], [(1, 1), ()], [(1, 1), (2,)],
    [(1, 1), (2, 1, 1)], [(1, 1), (2, 0)], [(1, 1), (0, 0)], [(1, 1), (2, -1)], [(1, 1), (-1, -2)],
    [(1, 1), (0, -1)], [(1, 1), (2, 4)], [(1, 1), (-2, 4)], [(1, 1), (0, 2)], [(2, 2), (2, 1)],
    [(1, 1), (6, 3)], [(HUGE, 10), (2, 1)], [(1, 1), (True, 1)], [(1, 1), (2, True)], [(False, 1), (2, 1)],
    [(1, 1), (2.0, 1)], [(1, 1), (2, 1.0)], [(1, 1), ("2", "1")], [(1, 1), (None, 1)], [(1, 1), (2, None)],
    [(1, 1), Fraction(2)], [(1, 1), {2: 1, 1: 1}], [(1, 1), True], [(1, 1), ((2, 1), 1)],
]


class GreatestChange(unittest.TestCase):
    def test_ordinary(self):
        self.assertEqual(greatest([3, 1, 2], [2, 2, 2]), 1)
        self.assertEqual(greatest([3, 1, 2], [1, 2, 9]), 7)
        self.assertEqual(greatest([5], [5]), 0)
        self.assertEqual(greatest([1, 2, 3], [1, 2, 3]), 0)

    def test_without_sign_either_way(self):
        self.assertEqual(greatest([10, 0], [0, 1]), 10)
        self.assertEqual(greatest([0, 10], [10, 9]), 10)
        self.assertEqual(greatest([-4, -9], [5, -9]), 9)

    def test_none_at_all(self):
        told = greatest([], [])
        self.assertEqual(told, 0)
        self.assertIs(type(told), int)

    def test_the_greatest_stands_at_any_place(self):
        for place in range(5):
            row = [0] * 5
            row[place] = -8
            self.assertEqual(greatest([1] * 5, row), 9)

    def test_of_any_size(self):
        self.assertEqual(greatest([BIG + 1, 0], [-BIG, 0]), 2 * BIG + 1)
        self.assertEqual(greatest([0, -BIG * 3], [1, BIG]), 4 * BIG)
        self.assertEqual(greatest([HUGE], [-HUGE]), 2 * HUGE)
        self.assertEqual(greatest([BIG + 1], [BIG]), 1)

    def test_of_any_count(self):
        self.assertEqual(greatest(list(range(20000)), [0] * 20000), 19999)

    def test_a_row_need_not_rise(self):
        self.assertEqual(greatest([1, 2, 3], [3, 2, 1]), 2)

    def test_against_a_plain_reckoning(self):
        for numbers in itertools.product(range(-2, 3), repeat=3):
            for row in itertools.product(range(-1, 2), repeat=3):
                wanted = max(abs(number - stand) for number, stand in zip(numbers, row))
                self.assertEqual(greatest(list(numbers), list(row)), wanted)


class Sum(unittest.TestCase):
    def test_ordinary(self):
        self.assertEqual(summed_up([3, 1, 2], [2, 2, 2], [1, 1, 1]), 2)
        self.assertEqual(summed_up([3, 1, 2], [2, 2, 2], [5, 7, 11]), 12)
        self.assertEqual(summed_up([4], [4], [9]), 0)

    def test_without_sign_either_way(self):
        self.assertEqual(summed_up([10, 0], [0, 10], [1, 1]), 20)
        self.assertEqual(summed_up([-4, -9], [5, -9], [3, 100]), 27)

    def test_none_at_all(self):
        told = summed_up([], [], [])
        self.assertEqual(told, 0)
        self.assertIs(type(told), int)

    def test_of_any_size(self):
        self.assertEqual(summed_up([BIG + 1, -BIG], [-BIG, BIG], [BIG, 1]), BIG * (2 * BIG + 1) + 2 * BIG)
        self.assertEqual(summed_up([HUGE], [-HUGE], [HUGE]), 2 * HUGE * HUGE)

    def test_of_any_count(self):
        self.assertEqual(summed_up(list(range(20000)), [0] * 20000, [2] * 20000), 19999 * 20000)

    def test_a_row_need_not_rise(self):
        self.assertEqual(summed_up([1, 2, 3], [3, 2, 1], [1, 1, 2]), 6)

    def test_against_a_plain_reckoning(self):
        for numbers in itertools.product(range(-2, 3), repeat=2):
            for row in itertools.product(range(-2, 3), repeat=2):
                for weights in itertools.product(range(1, 4), repeat=2):
                    wanted = abs(numbers[0] - row[0]) * weights[0] + abs(numbers[1] - row[1]) * weights[1]
                    self.assertEqual(summed_up(list(numbers), list(row), list(weights)), wanted)


class Squares(unittest.TestCase):
    def test_ordinary(self):
        self.assertEqual(squares([3, 1, 2], [(2, 1), (2, 1), (2, 1)], [1, 1, 1]), (2, 1))
        self.assertEqual(squares([3, 1], [(1, 1), (4, 1)], [5, 7]), (83, 1))
        self.assertEqual(squares([3, 2], [(5, 2), (5, 2)], [1, 1]), (1, 2))
        self.assertEqual(squares([1], [(1, 3)], [1]), (4, 9))

    def test_lowest_terms(self):
        self.assertEqual(squares([0], [(1, 2)], [4]), (1, 1))
        self.assertEqual(squares([0], [(1, 2)], [2]), (1, 2))
        self.assertEqual(squares([0, 0], [(1, 2), (1, 2)], [1, 3]), (1, 1))
        self.assertEqual(squares([0, 0], [(1, 6), (1, 3)], [1, 2]), (1, 4))
        self.assertEqual(squares([0], [(-5, 6)], [36]), (25, 1))

    def test_nothing_to_pay_is_zero_by_one(self):
        self.assertEqual(squares([4, -4], [(4, 1), (-4, 1)], [2, 3]), (0, 1))

    def test_none_at_all(self):
        told = squares([], [], [])
        self.assertEqual(told, (0, 1))
        self.assertEqual([type(part) for part in told], [int, int])

    def test_a_row_need_not_rise(self):
        self.assertEqual(squares([1, 2], [(5, 2), (1, 2)], [1, 1]), (9, 2))

    def test_of_any_size(self):
        cases = [
            ([BIG + 1, -BIG], [(-BIG, 3), (BIG + 1, BIG)], [BIG, BIG + 7]),
            ([HUGE, -HUGE], [(-HUGE, 1), (1, HUGE)], [HUGE, 1]),
            ([-BIG], [(BIG * BIG + 1, BIG)], [BIG * BIG]),
        ]
        for numbers, row, weights in cases:
            self.assertEqual(squares(numbers, row, weights), squares_beside(numbers, row, weights))

    def test_of_any_count(self):
        self.assertEqual(squares([1] * 20000, [(1, 2)] * 20000, [3] * 20000), (15000, 1))

    def test_many_seconds(self):
        numbers = list(range(-150, 150))
        row = pairs([Fraction(place * 7 - 11, place + 1) for place in range(300)])
        weights = [place % 13 + 1 for place in range(300)]
        self.assertEqual(squares(numbers, row, weights), squares_beside(numbers, row, weights))

    def test_against_a_plain_reckoning(self):
        stands = pairs([0, -1, Fraction(1, 2), Fraction(-2, 3), Fraction(5, 6)])
        for numbers in itertools.product(range(-1, 3), repeat=2):
            for row in itertools.product(stands, repeat=2):
                for weights in itertools.product((1, 2, 6, 9), repeat=2):
                    told = squares(list(numbers), list(row), list(weights))
                    self.assertEqual(told, squares_beside(numbers, row, weights))
                    self.assertIs(type(told), tuple)
                    self.assertGreaterEqual(told[1], 1)
                    self.assertEqual(math.gcd(told[0], told[1]), 1)


class NothingChangedOrKept(unittest.TestCase):
    calls = [
        (greatest, ([3, -BIG * 5], [2, BIG * 9])),
        (summed_up, ([3, -BIG * 5], [2, BIG * 9], [1, BIG * 7])),
        (squares, ([3, -BIG * 5], [(5, 2), (BIG * 9, 1)], [1, BIG * 7])),
    ]

    def test_nothing_handed_in_is_changed(self):
        for call, handed in self.calls:
            before = copy.deepcopy(handed)
            call(*handed)
            self.assertEqual(handed, before)

    def test_nothing_handed_in_is_kept(self):
        for call, handed in self.calls:
            before = [sys.getrefcount(values) for values in handed]
            told = call(*handed)
            self.assertEqual([sys.getrefcount(values) for values in handed], before)
            self.assertIsNotNone(told)

    def test_the_same_is_told_again_and_is_new(self):
        for call, handed in self.calls:
            self.assertEqual(call(*handed), call(*copy.deepcopy(handed)))
        self.assertIsNot(squares([0], [(1, 1)], [1]), squares([0], [(1, 1)], [1]))
        self.assertIsNot(squares([], [], []), squares([], [], []))
        stand = (1, 1)
        self.assertIsNot(squares([0], [stand], [1]), stand)

    def test_one_list_may_be_handed_in_twice(self):
        values = [1, 2]
        self.assertEqual(greatest(values, values), 0)
        self.assertEqual(summed_up(values, values, values), 0)
        self.assertEqual(values, [1, 2])

    def test_a_refusal_changes_nothing(self):
        numbers, row, weights = [1, 2], [(1, 1), (2, 1)], [1, 0]
        with self.assertRaises(BadWeights):
            squares(numbers, row, weights)
        self.assertEqual((numbers, row, weights), ([1, 2], [(1, 1), (2, 1)], [1, 0]))


class Refusals(Refusing):
    def test_numbers(self):
        for wrong in NO_WHOLES:
            self.refused(BadNumbers, greatest, wrong, [1, 2])
            self.refused(BadNumbers, summed_up, wrong, [1, 2], [1, 1])
            self.refused(BadNumbers, squares, wrong, [(1, 1), (2, 1)], [1, 1])

    def test_a_list_within_itself(self):
        wrong = within_itself()
        self.refused(BadNumbers, greatest, wrong, wrong)
        self.refused(BadRow, greatest, [1, 2], wrong)
        self.refused(BadWeights, summed_up, [1, 2], [1, 2], wrong)

    def test_row_of_whole_numbers(self):
        for wrong in NO_WHOLES + OTHER_LENGTHS:
            self.refused(BadRow, greatest, [1, 2], wrong)
            self.refused(BadRow, summed_up, [1, 2], wrong, [1, 1])

    def test_row_of_fractions(self):
        for wrong in NO_FRACTIONS + [pairs(values) for values in OTHER_LENGTHS]:
            self.refused(BadRow, squares, [1, 2], wrong, [1, 1])

    def test_weights(self):
        for wrong in NO_WHOLES + OTHER_LENGTHS + LOW_WEIGHTS:
            self.refused(BadWeights, summed_up, [1, 2], [1, 2], wrong)
            self.refused(BadWeights, squares, [1, 2], [(1, 1), (2, 1)], wrong)

    def test_without_numbers(self):
        for wrong in (None, (), "", 0, False, {}, [0], [None]):
            self.refused(BadRow, greatest, [], wrong)
            self.refused(BadRow, summed_up, [], wrong, [])
            self.refused(BadRow, squares, [], wrong, [])
            self.refused(BadWeights, summed_up, [], [], wrong)
            self.refused(BadWeights, squares, [], [], wrong)
        for wrong in (None, (), "", 0, False, {}, [True], [None]):
            self.refused(BadNumbers, greatest, wrong, [])
            self.refused(BadNumbers, summed_up, wrong, [], [])
            self.refused(BadNumbers, squares, wrong, [], [])

    def test_numbers_ahead_of_all_else(self):
        for wrong in NO_WHOLES:
            for other in (None, [True, False], [1], [0, 0], "ab"):
                self.refused(BadNumbers, greatest, wrong, other)
                self.refused(BadNumbers, summed_up, wrong, other, other)
                self.refused(BadNumbers, squares, wrong, other, other)
                self.refused(BadNumbers, summed_up, wrong, [1, 2], other)
                self.refused(BadNumbers, squares, wrong, [(1, 1), (2, 1)], other)

    def test_row_ahead_of_weights(self):
        for other in (None, [], [1], [0, 1], [True, 1], (1, 1), "ab"):
            for wrong in NO_WHOLES + OTHER_LENGTHS:
                self.refused(BadRow, summed_up, [1, 2], wrong, other)
            for wrong in NO_FRACTIONS + [pairs(values) for values in OTHER_LENGTHS]:
                self.refused(BadRow, squares, [1, 2], wrong, other)

    def test_weights_from_one_on_are_taken(self):
        self.assertEqual(summed_up([1, 2], [1, 1], [1, 1]), 1)
        self.assertEqual(squares([1, 2], [(1, 1), (1, 1)], [1, 1]), (1, 1))

    def test_values_too_long_to_be_written_out(self):
        self.refused(BadNumbers, greatest, [HUGE, None], [1, 2])
        self.refused(BadRow, greatest, [1, 2], [HUGE, None])
        self.refused(BadRow, squares, [1, 2], [(HUGE, 2), (HUGE, 2)], [1, 1])
        self.refused(BadWeights, summed_up, [1, 2], [1, 2], [-HUGE, 1])


if __name__ == "__main__":
    unittest.main()
