import copy
import itertools
import sys
import unittest

from helper import (
    BIG, HUGE, NO_MOSTS, NO_WHOLES, Refusing, greatest_beside, rises, rising_rows, rows_up_to, within_itself,
)
from uprow.answers import Band, Barred
from uprow.bands import band, lower, upper
from uprow.errors import BadMost, BadNumbers


class UpperAndLower(unittest.TestCase):
    def test_place_by_place(self):
        for numbers in rows_up_to(range(-1, 3), 4):
            above = upper(numbers)
            below = lower(numbers)
            for place in range(len(numbers)):
                self.assertEqual(above[place], max(numbers[:place + 1]))
                self.assertEqual(below[place], min(numbers[place:]))
            self.assertEqual((len(above), len(below)), (len(numbers), len(numbers)))

    def test_the_least_above_and_the_greatest_below(self):
        for numbers in itertools.product(range(-1, 2), repeat=3):
            rows = list(rising_rows(-1, 1, 3))
            over = [row for row in rows if all(stand >= number for stand, number in zip(row, numbers))]
            under = [row for row in rows if all(stand <= number for stand, number in zip(row, numbers))]
            self.assertEqual(upper(list(numbers)), [min(stands) for stands in zip(*over)])
            self.assertEqual(lower(list(numbers)), [max(stands) for stands in zip(*under)])

    def test_ordinary(self):
        self.assertEqual(upper([3, 1, 4, 1, 5]), [3, 3, 4, 4, 5])
        self.assertEqual(lower([3, 1, 4, 1, 5]), [1, 1, 1, 1, 5])
        self.assertEqual(upper([-1, -2]), [-1, -1])
        self.assertEqual(lower([-1, -2]), [-2, -2])

    def test_edges(self):
        for told in (upper, lower):
            self.assertEqual(told([]), [])
            self.assertEqual(told([5]), [5])
            self.assertEqual(told([0, 0]), [0, 0])
            self.assertEqual(told([-BIG, BIG]), [-BIG, BIG])
            self.assertTrue(rises(told(list(range(20000, 0, -1)))))
        self.assertEqual(upper([HUGE, -HUGE, HUGE + 1]), [HUGE, HUGE, HUGE + 1])
        self.assertEqual(lower([HUGE, -HUGE, HUGE + 1]), [-HUGE, -HUGE, HUGE + 1])

    def test_what_is_told_is_new(self):
        for told in (upper, lower):
            for numbers in ([], [4], [1, 2, 3], [3, 2, 1]):
                before = list(numbers)
                row = told(numbers)
                self.assertIs(type(row), list)
                self.assertIsNot(row, numbers)
                wanted = list(row)
                row.append(9)
                self.assertEqual(numbers, before)
                self.assertEqual(told(numbers), wanted)
                numbers.append(-9)
                self.assertEqual(row, wanted + [9])


class Bands(unittest.TestCase):
    def check(self, numbers, most):
        told = band(list(numbers), most)
        self.assertIs(told.shows(list(numbers), most), True)
        if isinstance(told, Barred):
            self.assertIs(type(told), Barred)
            self.assertEqual([type(told.first), type(told.second)], [int, int])
            self.assertTrue(0 <= told.first < told.second < len(numbers))
            self.assertGreater(numbers[told.first] - numbers[told.second], 2 * most)
            return None
        self.assertIs(type(told), Band)
        self.assertEqual([type(told.lows), type(told.highs)], [list, list])
        for row in (told.lows, told.highs):
            self.assertEqual({type(stand) for stand in row} - {int}, set())
            self.assertEqual(len(row), len(numbers))
            self.assertTrue(rises(row))
            self.assertLessEqual(greatest_beside(numbers, row), most)
        return (told.lows, told.highs)

    def test_the_least_and_the_greatest_of_all_rows(self):
        for numbers in rows_up_to(range(3), 4):
            for most in range(4):
                low, high = -most, 2 + most
                rows = [row for row in rising_rows(low, high, len(numbers)) if greatest_beside(numbers, row) <= most]
                wanted = None
                if rows:
                    wanted = ([min(stands) for stands in zip(*rows)], [max(stands) for stands in zip(*rows)])
                self.assertEqual(self.check(numbers, most), wanted, (numbers, most))

    def test_a_most_of_nothing(self):
        self.assertEqual(self.check([1, 1, 5], 0), ([1, 1, 5], [1, 1, 5]))
        self.assertIsNone(self.check([1, 0, 5], 0))
        self.assertEqual(self.check([7], 0), ([7], [7]))

    def test_just_enough_and_one_less(self):
        self.assertEqual(self.check([4, 0], 2), ([2, 2], [2, 2]))
        self.assertIsNone(self.check([4, 0], 1))
        self.assertEqual(self.check([5, 0], 3), ([2, 2], [3, 3]))
        self.assertIsNone(self.check([5, 0], 2))
        self.assertEqual(self.check([BIG * 2, 0], BIG), ([BIG, BIG], [BIG, BIG]))
        self.assertIsNone(self.check([BIG * 2, 0], BIG - 1))
        self.assertIsNone(self.check([BIG * 2 + 1, 0], BIG))

    def test_a_great_most(self):
        self.assertEqual(self.check([3, 1, 2], HUGE), ([3 - HUGE] * 3, [1 + HUGE, 1 + HUGE, 2 + HUGE]))
        self.assertEqual(self.check([-BIG, BIG], BIG * 5), ([-BIG * 6, -BIG * 4], [BIG * 4, BIG * 6]))

    def test_none_at_all(self):
        for most in (0, 1, BIG):
            self.assertEqual(self.check([], most), ([], []))

    def test_of_any_count(self):
        numbers = list(range(20000, 0, -1))
        self.assertIsNone(self.check(numbers, 9999))
        self.assertEqual(self.check(numbers, 10000), ([10000] * 20000, [10001] * 20000))


class NothingChangedOrKept(unittest.TestCase):
    calls = [(call, numbers) for call in (upper, lower) for numbers in ([BIG * 3, BIG], [BIG, BIG * 3], [])]

    def test_upper_and_lower(self):
        for call, numbers in self.calls:
            before = (sys.getrefcount(numbers), list(numbers))
            told = call(numbers)
            self.assertEqual((sys.getrefcount(numbers), list(numbers)), before)
            self.assertIsNot(told, numbers)

    def test_band(self):
        for numbers, most in (([BIG * 3, BIG], 1), ([BIG * 3, BIG], BIG), ([BIG, BIG], 0), ([], 0)):
            before = (sys.getrefcount(numbers), list(numbers))
            told = band(numbers, most)
            self.assertEqual((sys.getrefcount(numbers), list(numbers)), before)
            fields = copy.deepcopy(vars(told))
            mine = list(numbers)
            numbers.append(4)
            self.assertEqual(vars(told), fields)
            for field in vars(told).values():
                if isinstance(field, list):
                    field.append(9)
            self.assertEqual(numbers, mine + [4])
            self.assertEqual(vars(band(mine, most)), fields)

    def test_lows_and_highs_are_two_lists(self):
        for numbers in ([], [1, 2]):
            told = band(numbers, 0)
            self.assertIsNot(told.lows, told.highs)


class Refusals(Refusing):
    def test_numbers(self):
        for wrong in NO_WHOLES + [within_itself(), [HUGE, None]]:
            self.refused(BadNumbers, upper, wrong)
            self.refused(BadNumbers, lower, wrong)
            for most in (0, 5, -1, True, None, "1", 1.5, wrong):
                self.refused(BadNumbers, band, wrong, most)

    def test_most(self):
        for wrong in NO_MOSTS + [within_itself()]:
            for numbers in ([2, 1], [1, 2], []):
                self.refused(BadMost, band, numbers, wrong)


if __name__ == "__main__":
    unittest.main()
