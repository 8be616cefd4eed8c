"""What is handed in, checked for its kind, and refused by the class that belongs to it."""

from uprow.errors import BadNumbers, BadRow, BadWeights
from uprow.fractions import common_divisor


def is_whole(value):
    # Python counts True and False among the whole numbers; the program does not.
    return isinstance(value, int) and not isinstance(value, bool)


def is_fraction(value):
    if not isinstance(value, tuple) or len(value) != 2:
        return False
    if not is_whole(value[0]) or not is_whole(value[1]):
        return False
    return value[1] >= 1 and common_divisor(value[0], value[1]) == 1


def is_list_of_wholes(values):
    return isinstance(values, list) and all([is_whole(value) for value in values])


def is_list_of_fractions(values):
    return isinstance(values, list) and all([is_fraction(value) for value in values])


# The errors' words show no value: Python fails to write out a very long number, and the refusal would be lost.


def check_numbers(numbers):
    if not is_list_of_wholes(numbers):
        raise BadNumbers("numbers are a list of whole numbers")


def check_whole_row(numbers, row):
    if not is_list_of_wholes(row) or len(row) != len(numbers):
        raise BadRow("the row is a list of as many whole numbers as there are numbers")


def check_fraction_row(numbers, row):
    if not is_list_of_fractions(row) or len(row) != len(numbers):
        raise BadRow("the row is a list of as many fractions in lowest terms as there are numbers")


def check_weights(numbers, weights):
    if not is_list_of_wholes(weights) or len(weights) != len(numbers):
        raise BadWeights("weights are a list of as many whole numbers as there are numbers")
    if min(weights, default=1) < 1:
        raise BadWeights("each weight is from 1 on")
