"""What is handed in, checked for its kind, and refused by the class that belongs to it."""

from uprow.errors import BadMost, BadNumbers, BadRow, BadWeights
from uprow.fractions import common_divisor


def is_whole(value):
    # Python counts True and False among the whole numbers; the program does not.
    return isinstance(value, int) and not isinstance(value, bool)


def is_fraction(value):
    if not isinstance(value, tuple) or len(value) != 2:
        return False
    if not is_whole(value[0]) or not is_whole(value[1]):
        return False
    return value[1] >= 1 and common_divisor(value[0], value[1]) == 1


def is_list_of_wholes(values):
    return isinstance(values, list) and all([is_whole(value) for value in values])


def is_list_of_fractions(values):
    return isinstance(values, list) and all([is_fraction(value) for value in values])


def is_whole_row(numbers, row):
    return is_list_of_wholes(row) and len(row) == len(numbers)


def is_fraction_row(numbers, row):
    return is_list_of_fractions(row) and len(row) == len(numbers)


def are_weights(numbers, weights):
    return is_whole_row(numbers, weights) and min(weights, default=1) >= 1


def is_most(most):
    return is_whole(most) and most >= 0


# The errors' words show no value: Python fails to write out a very long number, and the refusal would be lost.


def check_numbers(numbers):
    if not is_list_of_wholes(numbers):
        raise BadNumbers("numbers are a list of whole numbers")


def check_whole_row(numbers, row):
    if not is_whole_row(numbers, row):
        raise BadRow("the row is a list of as many whole numbers as there are numbers")


def check_fraction_row(numbers, row):
    if not is_fraction_row(numbers, row):
        raise BadRow("the row is a list of as many fractions in lowest terms as there are numbers")


def check_weights(numbers, weights):
    if not are_weights(numbers, weights):
        raise BadWeights("weights are a list of as many whole numbers as there are numbers, each from 1 on")


def check_most(most):
    if not is_most(most):
        raise BadMost("the most is a whole number from 0 on")
