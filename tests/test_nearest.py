import copy
import itertools
import math
import sys
import unittest
from fractions import Fraction

from helper import (
    BIG, HUGE, LOW_WEIGHTS, NO_WHOLES, OTHER_LENGTHS, Refusing, greatest_beside, pairs, rises, rising_rows, rows_up_to,
    squared_beside, sum_beside, within_itself,
)
from uprow.answers import Evened, Squared, Summed
from uprow.errors import BadNumbers, BadWeights
from uprow.heaps import put_in, take_shares, take_top
from uprow.nearest import evened, squared, summed

# Numbers in no order, the same on every run.
MIXED = [place * 7919 % 1009 - 500 for place in range(400)]
GREAT_WEIGHTS = [place * 104729 % 1013 * 10 ** 9 + 1 for place in range(400)]

SHAPES = [
    [], [0], [-7], [HUGE], [1, 2], [2, 1], [5, 5], [3, 1, 2], [1, 3, 2], [2, 0, 1], [9, 5, 1], [0, 10, -3, 4, 4, 2],
    [5, 4, 3, 2, 1], [1, 2, 3, 4, 5], [-5, -9, -2, -2, -8, 0], [4, 4, 4, 4], [7, 0, 7, 0, 7, 0], [0, 7, 0, 7, 0, 7],
    [BIG + 1, -BIG], [-BIG, BIG + 1], [BIG + 2, BIG + 1, BIG], [-BIG, -BIG - 1, -BIG - 5, -BIG - 2],
    [HUGE, -HUGE, HUGE + 1, 0], MIXED, sorted(MIXED), sorted(MIXED, reverse=True),
]


def weights_for(numbers):
    count = len(numbers)
    return [
        [1] * count, [place % 3 + 1 for place in range(count)], [place * 5 % 7 + 1 for place in range(count)],
        [(place * 31 % 17 + 1) * 10 ** 9 for place in range(count)],
        [10 ** 9 + place * 7 for place in range(count)], [BIG ** 2 + place * place for place in range(count)],
        [1 if place % 2 else 5 * BIG for place in range(count)],
    ]


class Plain(unittest.TestCase):
    def are_wholes(self, values):
        self.assertIs(type(values), list)
        self.assertEqual({type(value) for value in values} - {int}, set())


class TheGreatestChange(Plain):
    def check(self, numbers):
        told = evened(list(numbers))
        self.assertIs(type(told), Evened)
        self.are_wholes(told.row)
        self.are_wholes([told.first, told.second])
        self.assertEqual(len(told.row), len(numbers))
        self.assertTrue(rises(told.row))
        cost = greatest_beside(numbers, told.row)
        if len(numbers) == 0:
            self.assertEqual((told.first, told.second), (0, 0))
        else:
            self.assertTrue(0 <= told.first <= told.second < len(numbers))
            self.assertIn(numbers[told.first] - numbers[told.second], (2 * cost, 2 * cost - 1))
        self.assertIs(told.shows(list(numbers)), True)
        return cost

    def test_least_of_all_rising_rows(self):
        for numbers in rows_up_to(range(-2, 3), 4):
            costs = [greatest_beside(numbers, row) for row in rising_rows(-2, 2, len(numbers))]
            self.assertEqual(self.check(numbers), min(costs), numbers)

    def test_shapes(self):
        for numbers in SHAPES:
            self.check(numbers)

    def test_odd_and_even_differences(self):
        self.assertEqual(self.check([4, 0]), 2)
        self.assertEqual(self.check([5, 0]), 3)
        self.assertEqual(self.check([-1, -2]), 1)
        self.assertEqual(self.check([-1, -3]), 1)
        self.assertEqual(self.check([1, 8, 3, 9, 2]), 4)

    def test_rising_numbers_stay(self):
        for numbers in ([], [3], [1, 1], [-4, 0, 0, 9], [-BIG, BIG]):
            told = evened(numbers)
            self.assertEqual(told.row, numbers)
            self.assertEqual(self.check(numbers), 0)

    def test_none_at_all(self):
        told = evened([])
        self.assertEqual((told.row, told.first, told.second), ([], 0, 0))

    def test_of_any_size(self):
        self.assertEqual(self.check([BIG * 3, -BIG * 3]), BIG * 3)
        self.assertEqual(self.check([BIG + 1, BIG]), 1)
        self.assertEqual(self.check([-BIG, -BIG - 3]), 2)
        self.assertEqual(self.check([HUGE + 1, -HUGE]), HUGE + 1)

    def test_of_any_count(self):
        numbers = list(range(20000, 0, -1))
        self.assertEqual(self.check(numbers), 10000)


class BySum(Plain):
    def check(self, numbers, weights):
        told = summed(list(numbers), list(weights))
        self.assertIs(type(told), Summed)
        for values in (told.row, told.pulls):
            self.are_wholes(values)
            self.assertEqual(len(values), len(numbers))
        self.assertTrue(rises(told.row))
        for pull, weight in zip(told.pulls, weights):
            self.assertLessEqual(abs(pull), weight)
        sums = list(itertools.accumulate(told.pulls, initial=0))
        self.assertGreaterEqual(min(sums), 0)
        self.assertEqual(sums[-1], 0)
        cost = sum_beside(numbers, told.row, weights)
        self.assertEqual(sum(pull * number for pull, number in zip(told.pulls, numbers)), cost)
        self.assertIs(told.shows(list(numbers), list(weights)), True)
        return cost

    def test_least_of_all_rising_rows(self):
        for numbers in rows_up_to(range(3), 4):
            for weights in itertools.product((1, 2, 5), repeat=len(numbers)):
                costs = [sum_beside(numbers, row, weights) for row in rising_rows(0, 2, len(numbers))]
                self.assertEqual(self.check(numbers, weights), min(costs), (numbers, weights))

    def test_more_heights(self):
        for numbers in itertools.permutations(range(-2, 3)):
            for weights in ([1] * 5, [3, 1, 1, 2, 1], [1, 1, 4, 1, 1], [10 ** 10, 1, 10 ** 10 - 1, 2, 10 ** 10]):
                costs = [sum_beside(numbers, row, weights) for row in rising_rows(-2, 2, 5)]
                self.assertEqual(self.check(numbers, weights), min(costs), (numbers, weights))

    def test_shapes(self):
        for numbers in SHAPES:
            for weights in weights_for(numbers):
                self.check(numbers, weights)
        self.check(MIXED, GREAT_WEIGHTS)

    def test_weights_tell(self):
        self.assertEqual(self.check([3, 1], [1, 1]), 2)
        self.assertEqual(self.check([3, 1], [5, 7]), 10)
        self.assertEqual(summed([3, 1], [5, 7]).row, [1, 1])
        self.assertEqual(summed([3, 1], [7, 5]).row, [3, 3])
        self.assertEqual(summed([3, 1], [5, 7]).pulls, [5, -5])

    def test_rising_numbers_stay(self):
        for numbers in ([], [3], [1, 1], [-4, 0, 0, 9], [-BIG, BIG]):
            self.assertEqual(summed(numbers, [2] * len(numbers)).row, numbers)
            self.assertEqual(self.check(numbers, [2] * len(numbers)), 0)

    def test_none_at_all(self):
        told = summed([], [])
        self.assertEqual((told.row, told.pulls), ([], []))

    def test_of_any_size(self):
        self.assertEqual(self.check([HUGE, -HUGE], [HUGE, HUGE + 1]), 2 * HUGE * HUGE)
        self.assertEqual(self.check([BIG + 1, BIG], [BIG, BIG * 3]), BIG)

    def test_of_any_count(self):
        count = 20000
        numbers = [place * 7919 % 10007 for place in range(count)]
        self.check(numbers, [1] * count)
        self.check(list(range(count, 0, -1)), [10 ** 12 + place for place in range(count)])


class BySquares(Plain):
    def check(self, numbers, weights):
        told = squared(list(numbers), list(weights))
        self.assertIs(type(told), Squared)
        self.assertIs(type(told.row), list)
        self.assertEqual(len(told.row), len(numbers))
        for stand in told.row:
            self.assertIs(type(stand), tuple)
            self.are_wholes(list(stand))
            self.assertGreaterEqual(stand[1], 1)
            self.assertEqual(math.gcd(stand[0], stand[1]), 1)
        row = [Fraction(*stand) for stand in told.row]
        self.assertTrue(rises(row))
        total = Fraction(0)
        for place, number in enumerate(numbers):
            total += (number - row[place]) * weights[place]
            self.assertGreaterEqual(total, 0)
            if place + 1 == len(row) or row[place] < row[place + 1]:
                self.assertEqual(total, 0)
        self.assertIs(told.shows(list(numbers), list(weights)), True)
        return told.row

    def test_the_one_row(self):
        for numbers in rows_up_to(range(-1, 2), 4):
            for weights in itertools.product((1, 2, 3), repeat=len(numbers)):
                self.assertEqual(self.check(numbers, weights), squared_beside(numbers, weights), (numbers, weights))

    def test_more_heights(self):
        for numbers in itertools.permutations(range(-2, 3)):
            for weights in ([1] * 5, [3, 1, 1, 2, 1], [1, 1, 4, 1, 1], [10 ** 10, 1, 10 ** 10 - 1, 2, 10 ** 10]):
                self.assertEqual(self.check(numbers, weights), squared_beside(numbers, weights), (numbers, weights))

    def test_shapes(self):
        for numbers in SHAPES:
            for weights in weights_for(numbers):
                self.check(numbers, weights)
        self.check(MIXED, GREAT_WEIGHTS)

    def test_ordinary(self):
        self.assertEqual(self.check([3, 2], [1, 1]), [(5, 2), (5, 2)])
        self.assertEqual(self.check([3, 1], [1, 1]), [(2, 1), (2, 1)])
        self.assertEqual(self.check([3, 1], [1, 3]), [(3, 2), (3, 2)])
        self.assertEqual(self.check([1, -1], [1, 1]), [(0, 1), (0, 1)])
        self.assertEqual(self.check([1, -2, 5], [1, 1, 9]), [(-1, 2), (-1, 2), (5, 1)])

    def test_rising_numbers_stay(self):
        for numbers in ([], [3], [1, 1], [-4, 0, 0, 9], [-BIG, BIG]):
            self.assertEqual(self.check(numbers, [2] * len(numbers)), pairs(numbers))

    def test_none_at_all(self):
        self.assertEqual(squared([], []).row, [])

    def test_of_any_size(self):
        self.assertEqual(self.check([HUGE + 1, -HUGE], [1, 1]), [(1, 2), (1, 2)])
        self.assertEqual(self.check([BIG, 0], [1, BIG]), pairs([Fraction(BIG, BIG + 1)] * 2))
        self.check([HUGE, 0], [HUGE + 7, HUGE * 3])

    def test_of_any_count(self):
        count = 20000
        self.assertEqual(self.check(list(range(count, 0, -1)), [3] * count), [(20001, 2)] * count)
        self.check([place * 7919 % 10007 for place in range(count)], [place % 5 + 10 ** 12 for place in range(count)])


class NothingChangedOrKept(unittest.TestCase):
    calls = [
        (evened, ([3 * BIG, -BIG * 5, BIG * 4],)),
        (summed, ([3 * BIG, -BIG * 5, BIG * 4], [BIG * 7, BIG, BIG * 2])),
        (squared, ([3 * BIG, -BIG * 5, BIG * 4], [BIG * 7, BIG, BIG * 2])),
        (evened, ([BIG, BIG + 1],)),
        (summed, ([BIG, BIG + 1], [BIG, BIG])),
        (squared, ([BIG, BIG + 1], [BIG, BIG])),
        (evened, ([],)),
        (summed, ([], [])),
        (squared, ([], [])),
    ]

    def test_nothing_handed_in_is_changed(self):
        for call, handed in self.calls:
            before = copy.deepcopy(handed)
            call(*handed)
            self.assertEqual(handed, before)

    def test_no_list_handed_in_is_kept(self):
        for call, handed in self.calls:
            before = [sys.getrefcount(values) for values in handed]
            told = call(*handed)
            self.assertEqual([sys.getrefcount(values) for values in handed], before)
            self.assertIsNotNone(told)

    def test_what_is_handed_in_may_be_changed_later(self):
        for call, handed in self.calls:
            mine = copy.deepcopy(handed)
            told = call(*mine)
            fields = copy.deepcopy(vars(told))
            for values in mine:
                values.append(0)
                values.reverse()
            self.assertEqual(vars(told), fields)

    def test_a_changed_field_changes_nothing_else(self):
        for call, handed in self.calls:
            mine = copy.deepcopy(handed)
            told = call(*mine)
            fields = copy.deepcopy(vars(told))
            for field in vars(told).values():
                if isinstance(field, list):
                    field.append(7)
                    field.reverse()
            self.assertEqual(mine, handed)
            self.assertEqual(vars(call(*mine)), fields)

    def test_row_and_pulls_are_two_lists(self):
        told = summed([], [])
        self.assertIsNot(told.row, told.pulls)

    def test_one_list_may_be_handed_in_twice(self):
        values = [5, 2, 1]
        self.assertTrue(summed(values, values).shows(values, values))
        self.assertTrue(squared(values, values).shows(values, values))
        self.assertEqual(values, [5, 2, 1])


class Refusals(Refusing):
    def test_numbers(self):
        for wrong in NO_WHOLES + [within_itself(), [HUGE, None]]:
            self.refused(BadNumbers, evened, wrong)
            for weights in ([1, 1], [], [0, 1], None, [True, True], "ab", wrong):
                self.refused(BadNumbers, summed, wrong, weights)
                self.refused(BadNumbers, squared, wrong, weights)

    def test_weights(self):
        for wrong in NO_WHOLES + OTHER_LENGTHS + LOW_WEIGHTS + [within_itself(), [HUGE, None]]:
            self.refused(BadWeights, summed, [2, 1], wrong)
            self.refused(BadWeights, squared, [2, 1], wrong)

    def test_without_numbers(self):
        for wrong in (None, (), "", 0, False, {}, [1], [0], [None]):
            self.refused(BadWeights, summed, [], wrong)
            self.refused(BadWeights, squared, [], wrong)
        for wrong in (None, (), "", 0, False, {}, [True], [None]):
            self.refused(BadNumbers, evened, wrong)
            self.refused(BadNumbers, summed, wrong, [])
            self.refused(BadNumbers, squared, wrong, [])

    def test_a_refusal_changes_nothing(self):
        for call in (summed, squared):
            numbers, weights = [2, 1], [1, 0]
            self.refused(BadWeights, call, numbers, weights)
            self.assertEqual((numbers, weights), ([2, 1], [1, 0]))


class Heap(unittest.TestCase):
    def test_values_leave_from_the_greatest_on(self):
        for values in itertools.product(range(4), repeat=5):
            heap = []
            for value in values:
                put_in(heap, value, 1)
            told = []
            while heap:
                told.append(heap[0][0])
                take_top(heap)
            self.assertEqual(told, sorted(values, reverse=True))

    def test_shares_leave_the_greatest_value(self):
        heap = []
        for value, share in ((3, 4), (9, 2), (5, 3)):
            put_in(heap, value, share)
        take_shares(heap, 1)
        self.assertEqual(heap[0], (9, 1))
        take_shares(heap, 1)
        self.assertEqual(heap[0], (5, 3))
        take_shares(heap, 5)
        self.assertEqual(heap, [(3, 2)])


if __name__ == "__main__":
    unittest.main()
