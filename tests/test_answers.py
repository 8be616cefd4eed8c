import copy
import itertools
import unittest
from fractions import Fraction

from helper import (
    BIG, HUGE, greatest_beside, pairs, rises, rising_rows, rows_up_to, squared_beside, sum_beside,
)
from uprow import answers
from uprow.answers import Answer, Band, Barred, Evened, Squared, Summed
from uprow.bands import band
from uprow.nearest import evened, squared, summed

NO_WHOLE_PLACES = [None, True, False, 0.0, "0", [0], (0,), Fraction(0)]
NO_WHOLE_LISTS = [None, 0, (), (2, 2), "22", [(2, 1), (2, 1)], [2.0, 2.0], [True, True], [None, None], {2: 2, 3: 3}]


def evened_beside(numbers, row, first, second):
    if len(row) != len(numbers) or not rises(row):
        return False
    if not numbers:
        return first == 0 and second == 0
    if not 0 <= first <= second < len(numbers):
        return False
    return numbers[first] - numbers[second] >= 2 * greatest_beside(numbers, row) - 1


def summed_beside(numbers, weights, row, pulls):
    if len(row) != len(numbers) or len(pulls) != len(numbers) or not rises(row):
        return False
    if any(abs(pull) > weight for pull, weight in zip(pulls, weights)):
        return False
    if any(total < 0 for total in itertools.accumulate(pulls)) or sum(pulls) != 0:
        return False
    return sum(pull * number for pull, number in zip(pulls, numbers)) == sum_beside(numbers, row, weights)


def band_beside(numbers, most):
    rows = rising_rows(min(numbers) - most, max(numbers) + most, len(numbers))
    rows = [row for row in rows if greatest_beside(numbers, row) <= most]
    if not rows:
        return None
    return ([min(stands) for stands in zip(*rows)], [max(stands) for stands in zip(*rows)])


class Shown(unittest.TestCase):
    def shown(self, wanted, answer, *asked):
        self.assertIs(answer.shows(*asked), wanted, (vars(answer), asked))


class Classes(unittest.TestCase):
    def test_each_stands_straight_under_answer(self):
        for kind in (Evened, Summed, Squared, Band, Barred):
            self.assertEqual(kind.__bases__, (Answer,))
            self.assertIs(getattr(answers, kind.__name__), kind)

    def test_arguments_are_fields(self):
        self.assertEqual(vars(Evened([1, 2], 3, 4)), {"row": [1, 2], "first": 3, "second": 4})
        self.assertEqual(vars(Summed([1, 2], [3])), {"row": [1, 2], "pulls": [3]})
        self.assertEqual(vars(Squared([(1, 2)])), {"row": [(1, 2)]})
        self.assertEqual(vars(Band([1], [2, 3])), {"lows": [1], "highs": [2, 3]})
        self.assertEqual(vars(Barred(5, 6)), {"first": 5, "second": 6})

    def test_arguments_by_their_names(self):
        self.assertEqual(vars(Evened(row=[1], first=0, second=2)), {"row": [1], "first": 0, "second": 2})
        self.assertEqual(vars(Summed(row=[1], pulls=[0])), {"row": [1], "pulls": [0]})
        self.assertEqual(vars(Squared(row=[])), {"row": []})
        self.assertEqual(vars(Band(lows=[1], highs=[2])), {"lows": [1], "highs": [2]})
        self.assertEqual(vars(Barred(first=0, second=1)), {"first": 0, "second": 1})
        self.assertTrue(Evened([1], 0, 0).shows(numbers=[1]))
        self.assertTrue(Summed([1], [0]).shows(numbers=[1], weights=[2]))
        self.assertTrue(Squared([(1, 1)]).shows(numbers=[1], weights=[2]))
        self.assertTrue(Band([1], [1]).shows(numbers=[1], most=0))
        self.assertTrue(Barred(0, 1).shows(numbers=[1, 0], most=0))

    def test_lists_are_copied(self):
        makings = [
            lambda one, other: Evened(one, 0, 0), lambda one, other: Summed(one, other),
            lambda one, other: Squared(one), lambda one, other: Band(one, other),
        ]
        for making in makings:
            one, other = [1, 2], [3, 4]
            answer = making(one, other)
            fields = copy.deepcopy(vars(answer))
            one.append(9)
            other.clear()
            self.assertEqual(vars(answer), fields)
            one, other = [1, 2], [3, 4]
            answer = making(one, other)
            for field in vars(answer).values():
                if isinstance(field, list):
                    field.append(7)
            self.assertEqual((one, other), ([1, 2], [3, 4]))

    def test_one_list_twice_makes_two(self):
        same = [0]
        summed_answer, band_answer = Summed(same, same), Band(same, same)
        self.assertIsNot(summed_answer.row, summed_answer.pulls)
        self.assertIsNot(band_answer.lows, band_answer.highs)

    def test_asking_changes_nothing(self):
        for answer, asked in (
            (evened([3, 1]), ([3, 1],)), (summed([3, 1], [1, 2]), ([3, 1], [1, 2])),
            (squared([3, 1], [1, 2]), ([3, 1], [1, 2])), (band([3, 1], 1), ([3, 1], 1)), (band([3, 1], 0), ([3, 1], 0)),
        ):
            before = copy.deepcopy((vars(answer), asked))
            self.assertIs(answer.shows(*asked), True)
            self.assertIs(answer.shows(*asked), True)
            self.assertEqual((vars(answer), asked), before)


class EvenedShows(Shown):
    def test_as_told(self):
        places = range(-2, 4)
        for numbers in rows_up_to(range(3), 2):
            for row in rows_up_to(range(-1, 3), 3):
                for first, second in itertools.product(places, places):
                    wanted = evened_beside(numbers, row, first, second)
                    self.shown(wanted, Evened(row, first, second), numbers)

    def test_three_numbers(self):
        for numbers in ([5, 0, 3], [3, 5, 0], [4, 0, 4], [0, 1, 2], [2, 2, 0], [-1, -4, -4]):
            for row in itertools.product(range(-4, 6, 1), repeat=3):
                for first, second in itertools.product(range(4), range(4)):
                    wanted = evened_beside(numbers, row, first, second)
                    self.shown(wanted, Evened(row, first, second), numbers)

    def test_twice_the_cost_or_one_less(self):
        self.shown(True, Evened([2, 2], 0, 1), [4, 0])
        self.shown(True, Evened([2, 2], 0, 1), [4, 1])
        self.shown(False, Evened([2, 2], 0, 1), [4, 2])
        self.shown(True, Evened([5], 0, 0), [5])
        self.shown(False, Evened([6], 0, 0), [5])

    def test_without_numbers(self):
        self.shown(True, Evened([], 0, 0), [])
        for first, second in ((0, 1), (1, 1), (-1, 0), (-1, -1), (1, 0), (0, -1)):
            self.shown(False, Evened([], first, second), [])
        self.shown(False, Evened([0], 0, 0), [])
        self.shown(False, Evened([], 0, 0), [0])

    def test_places_beyond_the_numbers_and_below_0(self):
        # From behind, Python would find the fitting numbers at places below 0.
        for first, second in ((-2, -1), (-2, 1), (0, -1), (0, 2), (2, 2), (1, 0), (0, BIG), (-BIG, 1)):
            self.shown(False, Evened([2, 2], first, second), [4, 0])

    def test_one_number_more_or_less(self):
        answer = evened([4, 0, 7])
        self.shown(True, answer, [4, 0, 7])
        self.shown(False, answer, [4, 0])
        self.shown(False, answer, [4, 0, 7, 8])
        self.shown(False, answer, [])

    def test_a_row_that_does_not_rise(self):
        self.shown(False, Evened([3, 1], 0, 1), [4, 0])
        self.shown(False, Evened([4, 0], 0, 1), [4, 0])

    def test_fields_changed_later(self):
        answer = evened([4, 0])
        answer.row[1] = 3
        self.shown(False, answer, [4, 0])
        self.shown(True, answer, [4, 1])
        answer.row = [1, 1]
        self.shown(False, answer, [4, 0])
        answer.row = [2, 2]
        self.shown(True, answer, [4, 0])
        answer.first = 1
        self.shown(False, answer, [4, 0])
        answer.first = 0
        answer.second = 0
        self.shown(False, answer, [4, 0])
        answer.second = 1
        self.shown(True, answer, [4, 0])
        answer.row.append(2)
        self.shown(False, answer, [4, 0])
        answer.row.clear()
        self.shown(False, answer, [4, 0])

    def test_great_numbers(self):
        self.shown(True, Evened([0, 0], 0, 1), [HUGE, -HUGE])
        self.shown(True, Evened([0, 0], 0, 1), [HUGE, 1 - HUGE])
        self.shown(False, Evened([0, 0], 0, 1), [HUGE, 2 - HUGE])
        self.shown(False, Evened([0, 1], 0, 1), [HUGE, -HUGE])

    def test_fields_of_another_kind(self):
        for wrong in NO_WHOLE_LISTS:
            answer = Evened([2, 2], 0, 1)
            answer.row = wrong
            self.shown(False, answer, [4, 0])
        for wrong in NO_WHOLE_PLACES:
            self.shown(False, Evened([5], wrong, 0), [5])
            self.shown(False, Evened([5], 0, wrong), [5])
            self.shown(False, Evened([], wrong, wrong), [])


class SummedShows(Shown):
    def test_as_told(self):
        for numbers in rows_up_to(range(3), 2):
            for weights in itertools.product((1, 2), repeat=len(numbers)):
                for row in rows_up_to(range(3), 2):
                    for pulls in rows_up_to(range(-3, 4), 2):
                        wanted = summed_beside(numbers, weights, row, pulls)
                        self.shown(wanted, Summed(row, pulls), numbers, list(weights))

    def test_three_numbers(self):
        for numbers, weights in (([2, 0, 1], [1, 2, 1]), ([2, 1, 0], [1, 1, 1]), ([0, 2, 1], [2, 1, 2])):
            for row in itertools.product(range(3), repeat=3):
                for pulls in itertools.product(range(-2, 3), repeat=3):
                    wanted = summed_beside(numbers, weights, row, pulls)
                    self.shown(wanted, Summed(row, pulls), numbers, weights)

    def test_without_numbers(self):
        self.shown(True, Summed([], []), [], [])
        self.shown(False, Summed([0], []), [], [])
        self.shown(False, Summed([], [0]), [], [])
        self.shown(False, Summed([0], [0]), [], [])
        self.shown(False, Summed([], []), [0], [1])

    def test_each_fault_by_itself(self):
        self.shown(True, Summed([1, 1], [1, -1]), [2, 1], [1, 1])
        # A pull of more than its weight, either way.
        self.shown(True, Summed([0, 0, 3], [2, -2, 0]), [1, 0, 3], [2, 2, 1])
        self.shown(False, Summed([0, 0], [4, -4]), [2, 0], [4, 3])
        self.shown(False, Summed([2, 2], [4, -4]), [2, 0], [3, 4])
        # A sum below 0 on the way.
        self.shown(False, Summed([2, 2], [-1, 1]), [0, 2], [1, 1])
        # Pulls that are not 0 together.
        self.shown(False, Summed([0], [1]), [0], [1])
        self.shown(False, Summed([0, 0], [1, 0]), [1, 0], [1, 1])
        # A row that costs more, or that does not rise.
        self.shown(False, Summed([0, 2], [1, -1]), [2, 1], [1, 1])
        self.shown(False, Summed([2, 1], [0, 0]), [2, 1], [1, 1])

    def test_lists_of_another_length(self):
        answer = summed([3, 1, 2], [1, 1, 1])
        self.shown(True, answer, [3, 1, 2], [1, 1, 1])
        self.shown(False, answer, [3, 1], [1, 1])
        self.shown(False, answer, [3, 1, 2, 9], [1, 1, 1, 1])
        self.shown(False, answer, [], [])
        # What goes beyond the numbers would else be of no cost and no use.
        for row, pulls in (([1, 1, 2], [0, 0]), ([1, 1], [0, 0, 0]), ([], [0, 0]), ([1, 1], []), ([1], [0]), ([], [])):
            self.shown(False, Summed(row, pulls), [1, 1], [1, 1])

    def test_fields_changed_later(self):
        answer = Summed([1, 1], [1, -1])
        self.shown(True, answer, [2, 1], [1, 1])
        answer.row[1] = 2
        self.shown(False, answer, [2, 1], [1, 1])
        answer.row = [2, 2]
        self.shown(True, answer, [2, 1], [1, 1])
        answer.pulls[0] = 0
        self.shown(False, answer, [2, 1], [1, 1])
        answer.pulls = [1, -1, 0]
        self.shown(False, answer, [2, 1], [1, 1])
        answer.pulls.pop()
        self.shown(True, answer, [2, 1], [1, 1])

    def test_great_weights(self):
        weights = [HUGE, HUGE + 1]
        self.shown(True, Summed([0, 0], [HUGE, -HUGE]), [BIG, 0], weights)
        self.shown(False, Summed([0, 0], [HUGE, -HUGE]), [BIG, 0], [HUGE - 1, HUGE])
        self.shown(False, Summed([0, 0], [HUGE - 1, 1 - HUGE]), [BIG, 0], weights)
        self.shown(False, Summed([1, 1], [HUGE, -HUGE]), [BIG, 0], weights)

    def test_fields_of_another_kind(self):
        for wrong in NO_WHOLE_LISTS:
            answer = Summed([2, 2], [0, 0])
            answer.row = wrong
            self.shown(False, answer, [2, 2], [1, 1])
            answer = Summed([2, 2], [0, 0])
            answer.pulls = wrong
            self.shown(False, answer, [2, 2], [1, 1])
        self.shown(False, Summed([2], [False]), [2], [1])
        self.shown(False, Summed([True], [0]), [1], [1])


class SquaredShows(Shown):
    def test_the_one_row_alone(self):
        stands = pairs([-1, 0, Fraction(1, 3), Fraction(1, 2), Fraction(2, 3), 1, Fraction(3, 2), 2])
        for numbers in rows_up_to(range(3), 2):
            for weights in itertools.product((1, 2), repeat=len(numbers)):
                told = squared_beside(numbers, weights)
                for row in rows_up_to(stands, 2) + [told, told + [(9, 1)], told[:-1]]:
                    self.shown(row == told, Squared(row), numbers, list(weights))

    def test_three_numbers(self):
        stands = pairs([0, Fraction(1, 2), Fraction(2, 3), 1, Fraction(4, 3), Fraction(3, 2), 2])
        for numbers in itertools.product(range(3), repeat=3):
            for weights in ([1, 1, 1], [1, 2, 1]):
                told = squared_beside(numbers, weights)
                for row in itertools.product(stands, repeat=3):
                    self.shown(list(row) == told, Squared(row), list(numbers), weights)

    def test_each_fault_by_itself(self):
        self.shown(True, Squared([(3, 2), (3, 2)]), [2, 1], [1, 1])
        # A sum below 0 on the way; one that is not 0 in the end, and where the row goes up.
        self.shown(False, Squared([(3, 2), (3, 2)]), [1, 2], [1, 1])
        self.shown(False, Squared([(0, 1)]), [1], [1])
        self.shown(False, Squared([(1, 1)]), [0], [1])
        self.shown(False, Squared([(1, 1), (2, 1)]), [2, 1], [1, 1])
        self.shown(False, Squared([(1, 2), (3, 2)]), [1, 1], [1, 1])
        # A row that does not rise, with nothing lacking.
        self.shown(False, Squared([(2, 1), (1, 1)]), [2, 1], [1, 1])
        self.shown(False, Squared([(3, 2), (3, 2), (1, 1)]), [2, 1, 1], [1, 1, 1])

    def test_sums_of_two_heights(self):
        # Lacks of 1 by 2, times other seconds alike: they must not be taken for 0 together.
        self.shown(False, Squared([(1, 2), (5, 4)]), [1, 1], [1, 2])
        self.shown(False, Squared([(1, 2), (4, 3)]), [1, 1], [2, 3])

    def test_without_numbers(self):
        self.shown(True, Squared([]), [], [])
        self.shown(False, Squared([(0, 1)]), [], [])
        self.shown(False, Squared([]), [0], [1])

    def test_one_number_more_or_less(self):
        answer = squared([3, 2, 8], [1, 1, 1])
        self.shown(True, answer, [3, 2, 8], [1, 1, 1])
        self.shown(False, answer, [3, 2], [1, 1])
        self.shown(False, answer, [3, 2, 8, 9], [1, 1, 1, 1])
        self.shown(False, answer, [3, 2, 8], [1, 2, 1])
        self.shown(True, answer, [3, 2, 8], [1, 1, 5])

    def test_fields_changed_later(self):
        answer = squared([3, 2], [1, 1])
        answer.row[0] = (2, 1)
        self.shown(False, answer, [3, 2], [1, 1])
        answer.row = [(5, 2), (5, 2)]
        self.shown(True, answer, [3, 2], [1, 1])
        answer.row.append((5, 2))
        self.shown(False, answer, [3, 2], [1, 1])
        answer.row = []
        self.shown(False, answer, [3, 2], [1, 1])
        self.shown(True, answer, [], [])

    def test_great_numbers(self):
        self.shown(True, Squared([(1, 2), (1, 2)]), [HUGE + 1, -HUGE], [1, 1])
        self.shown(False, Squared([(1, 2), (1, 2)]), [HUGE + 1, -HUGE], [BIG, BIG + 1])
        self.shown(True, Squared([(BIG, BIG + 1)] * 2), [BIG, 0], [1, BIG])

    def test_fields_of_another_kind(self):
        for wrong in NO_WHOLE_LISTS:
            if wrong == [(2, 1), (2, 1)]:
                continue
            answer = Squared([(2, 1), (2, 1)])
            answer.row = wrong
            self.shown(False, answer, [2, 2], [1, 1])
        for wrong in ([2, 2], [(4, 2), (2, 1)], [(-2, -1), (2, 1)], [(2, 1), (2, 0)], [(2, True), (2, 1)],
                      [(2, 1, 1), (2, 1)], [[2, 1], [2, 1]]):
            self.shown(False, Squared(wrong), [2, 2], [1, 1])


class BandShows(Shown):
    def test_as_told(self):
        for numbers in rows_up_to(range(3), 2)[1:]:
            for most in range(3):
                wanted = band_beside(numbers, most)
                rows = rows_up_to(range(-2, 5), 2)
                for lows, highs in itertools.product(rows, rows):
                    self.shown((lows, highs) == wanted, Band(lows, highs), numbers, most)

    def test_without_numbers(self):
        for most in (0, 3, BIG):
            self.shown(True, Band([], []), [], most)
            self.shown(False, Band([0], [0]), [], most)
            self.shown(False, Band([], [0]), [], most)
            self.shown(False, Band([0], []), [], most)

    def test_never_of_barred_numbers(self):
        self.shown(True, Band([2, 2], [2, 2]), [4, 0], 2)
        self.shown(False, Band([3, 3], [1, 1]), [4, 0], 1)
        self.shown(False, Band([4, 4], [0, 0]), [4, 0], 0)
        self.shown(False, Band([], []), [4, 0], 0)

    def test_one_number_more_or_less(self):
        answer = band([1, 2, 3], 1)
        self.shown(True, answer, [1, 2, 3], 1)
        self.shown(False, answer, [1, 2], 1)
        self.shown(False, answer, [1, 2, 3, 4], 1)
        self.shown(False, answer, [], 1)
        self.shown(False, answer, [1, 2, 3], 0)
        self.shown(False, answer, [1, 2, 3], 2)

    def test_fields_changed_later(self):
        answer = band([3, 1], 1)
        self.shown(True, answer, [3, 1], 1)
        answer.lows[0] = 1
        self.shown(False, answer, [3, 1], 1)
        answer.lows = [2, 2]
        self.shown(True, answer, [3, 1], 1)
        answer.highs.append(2)
        self.shown(False, answer, [3, 1], 1)
        answer.highs = []
        self.shown(False, answer, [3, 1], 1)

    def test_great_numbers(self):
        self.shown(True, Band([0, 0], [0, 0]), [HUGE, -HUGE], HUGE)
        self.shown(False, Band([1, 1], [-1, -1]), [HUGE, -HUGE], HUGE - 1)

    def test_fields_of_another_kind(self):
        for wrong in NO_WHOLE_LISTS:
            answer = Band([2, 2], [2, 2])
            answer.lows = wrong
            self.shown(False, answer, [2, 2], 0)
            answer = Band([2, 2], [2, 2])
            answer.highs = wrong
            self.shown(False, answer, [2, 2], 0)
        self.shown(False, Band([True], [1]), [1], 0)
        self.shown(False, Band([1], [1.0]), [1], 0)


class BarredShows(Shown):
    def test_as_told(self):
        for numbers in rows_up_to(range(-1, 4), 3):
            for most in range(3):
                for first, second in itertools.product(range(-3, 4), repeat=2):
                    wanted = 0 <= first < second < len(numbers) and numbers[first] - numbers[second] > 2 * most
                    self.shown(wanted, Barred(first, second), numbers, most)

    def test_edges(self):
        self.shown(True, Barred(0, 1), [5, 0], 2)
        self.shown(False, Barred(0, 1), [4, 0], 2)
        self.shown(False, Barred(0, 1), [5, 0], 3)
        self.shown(False, Barred(1, 0), [0, 5], 0)
        self.shown(False, Barred(-2, -1), [5, 0], 0)
        self.shown(False, Barred(0, 2), [5, 0], 0)
        self.shown(False, Barred(0, -BIG), [5, 0], 0)
        self.shown(False, Barred(0, BIG), [5, 0], 0)
        self.shown(True, Barred(0, 1), [HUGE, -HUGE], HUGE - 1)
        self.shown(False, Barred(0, 1), [HUGE, -HUGE], HUGE)

    def test_without_numbers(self):
        for first, second in itertools.product(range(-1, 2), repeat=2):
            self.shown(False, Barred(first, second), [], 0)

    def test_fields_changed_later(self):
        answer = Barred(0, 1)
        self.shown(True, answer, [5, 0, 5], 2)
        answer.second = 2
        self.shown(False, answer, [5, 0, 5], 2)
        answer.first = 1
        answer.second = 1
        self.shown(False, answer, [5, 0, 5], 2)
        answer.first = 0
        self.shown(True, answer, [5, 0, 5], 2)

    def test_fields_of_another_kind(self):
        for wrong in NO_WHOLE_PLACES:
            self.shown(False, Barred(wrong, 1), [5, 0], 0)
        for wrong in (True, 1.0, None, "1", [1]):
            self.shown(False, Barred(0, wrong), [5, 0], 0)


class WhatIsAskedIsNoneSuch(Shown):
    # Nothing is refused by shows: of what are no numbers, weights or most, no answer is right.
    def test_weights(self):
        for weights in ([], [1], [1, 1, 1], [0, 1], [1, -1], None, [True, True]):
            self.shown(False, Summed([1, 2], [0, 0]), [1, 2], weights)
            self.shown(False, Squared([(1, 1), (2, 1)]), [1, 2], weights)

    def test_numbers(self):
        for numbers in (None, (1, 2), [1, 2.0], [True, 2], "12"):
            self.shown(False, Evened([1, 2], 0, 0), numbers)
            self.shown(False, Summed([1, 2], [0, 0]), numbers, [1, 1])
            self.shown(False, Squared([(1, 1), (2, 1)]), numbers, [1, 1])
            self.shown(False, Band([1, 2], [1, 2]), numbers, 0)
            self.shown(False, Barred(0, 1), numbers, 0)

    def test_most(self):
        for most in (-1, -BIG, None, True, 0.0, "0"):
            self.shown(False, Band([1, 2], [1, 2]), [1, 2], most)
            self.shown(False, Barred(0, 1), [9, 2], most)


if __name__ == "__main__":
    unittest.main()
