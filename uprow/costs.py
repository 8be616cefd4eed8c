"""What a row costs beside numbers: by the greatest change, by sum and by squares."""

from uprow.checks import check_fraction_row, check_numbers, check_weights, check_whole_row
from uprow.fractions import lowest, plus


def differences(numbers, row):
    return [abs(number - stand) for number, stand in zip(numbers, row)]


def greatest(numbers, row):
    check_numbers(numbers)
    check_whole_row(numbers, row)
    return max(differences(numbers, row), default=0)


def summed_up(numbers, row, weights):
    check_numbers(numbers)
    check_whole_row(numbers, row)
    check_weights(numbers, weights)
    return sum([weight * difference for weight, difference in zip(weights, differences(numbers, row))])


def weighted_square(number, fraction, weight):
    top = number * fraction[1] - fraction[0]
    return lowest(weight * top * top, fraction[1] * fraction[1])


def squares(numbers, row, weights):
    check_numbers(numbers)
    check_fraction_row(numbers, row)
    check_weights(numbers, weights)
    # Reckoned, not written out, so that also without numbers the pair told is a new one.
    total = lowest(0, 1)
    for place, number in enumerate(numbers):
        total = plus(total, weighted_square(number, row[place], weights[place]))
    return total
