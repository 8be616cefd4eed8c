"""The rows close above and below numbers, and the band in which rising rows of no more than a cost stand."""

from uprow.answers import Band, Barred
from uprow.checks import check_most, check_numbers
from uprow.rising import deepest_fall, greatest_stands, least_stands, lower_row, upper_row


def upper(numbers):
    check_numbers(numbers)
    return upper_row(numbers)


def lower(numbers):
    check_numbers(numbers)
    return lower_row(numbers)


def band(numbers, most):
    check_numbers(numbers)
    check_most(most)
    fall = deepest_fall(numbers)
    if fall[2] > 2 * most:
        return Barred(fall[0], fall[1])
    return Band(least_stands(numbers, most), greatest_stands(numbers, most))
