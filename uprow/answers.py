"""What the program tells: each answer with what shows it to be right, asked by its fields as they stand then."""

from uprow.checks import are_weights, is_fraction_row, is_list_of_wholes, is_most, is_whole, is_whole_row
from uprow.costs import greatest, summed_up
from uprow.rising import deepest_fall, fractions_rise, greatest_stands, least_stands, rises


def is_rising_whole_row(numbers, row):
    return is_whole_row(numbers, row) and rises(row)


def are_places(numbers, first, second):
    # Without numbers there is no place, but 0 is told for one.
    last = max(len(numbers) - 1, 0)
    return is_whole(first) and is_whole(second) and 0 <= first <= second <= last


def fall_between(numbers, first, second):
    return 0 if numbers == [] else numbers[first] - numbers[second]


def sums_show(pulls):
    total = 0
    for pull in pulls:
        total += pull
        if total < 0:
            return False
    return total == 0


def within_weights(pulls, weights):
    return all([abs(pull) <= weight for pull, weight in zip(pulls, weights)])


def lacks_show(numbers, row, weights):
    # The lacks' sum must be 0 wherever the row goes up, so it is kept for one height alone, times that
    # height's second part: whole numbers do for it.
    total = 0
    for place, number in enumerate(numbers):
        stand = row[place]
        if place > 0 and stand != row[place - 1] and total != 0:
            return False
        total += weights[place] * (number * stand[1] - stand[0])
        if total < 0:
            return False
    return total == 0


class Answer:
    pass


class Evened(Answer):
    def __init__(self, row, first, second):
        self.row = list(row)
        self.first = first
        self.second = second

    def shows(self, numbers):
        if not is_list_of_wholes(numbers) or not is_rising_whole_row(numbers, self.row):
            return False
        if not are_places(numbers, self.first, self.second):
            return False
        return fall_between(numbers, self.first, self.second) >= 2 * greatest(numbers, self.row) - 1


class Summed(Answer):
    def __init__(self, row, pulls):
        self.row = list(row)
        self.pulls = list(pulls)

    def shows(self, numbers, weights):
        if not is_list_of_wholes(numbers) or not are_weights(numbers, weights):
            return False
        if not is_rising_whole_row(numbers, self.row) or not is_whole_row(numbers, self.pulls):
            return False
        if not within_weights(self.pulls, weights) or not sums_show(self.pulls):
            return False
        pulled = sum([pull * number for pull, number in zip(self.pulls, numbers)])
        return pulled == summed_up(numbers, self.row, weights)


class Squared(Answer):
    def __init__(self, row):
        self.row = list(row)

    def shows(self, numbers, weights):
        if not is_list_of_wholes(numbers) or not are_weights(numbers, weights):
            return False
        if not is_fraction_row(numbers, self.row) or not fractions_rise(self.row):
            return False
        return lacks_show(numbers, self.row, weights)


class Band(Answer):
    def __init__(self, lows, highs):
        self.lows = list(lows)
        self.highs = list(highs)

    def shows(self, numbers, most):
        if not is_list_of_wholes(numbers) or not is_most(most):
            return False
        if not is_list_of_wholes(self.lows) or not is_list_of_wholes(self.highs):
            return False
        if deepest_fall(numbers)[2] > 2 * most:
            return False
        return self.lows == least_stands(numbers, most) and self.highs == greatest_stands(numbers, most)


class Barred(Answer):
    def __init__(self, first, second):
        self.first = first
        self.second = second

    def shows(self, numbers, most):
        if not is_list_of_wholes(numbers) or not is_most(most):
            return False
        if not are_places(numbers, self.first, self.second):
            return False
        # A number does not fall below itself, so this is never so of one place taken twice.
        return fall_between(numbers, self.first, self.second) > 2 * most
