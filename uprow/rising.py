"""Rising rows: whether a row rises, the rows close above and below numbers, and how deep numbers fall."""

from uprow.fractions import is_less


def rises(row):
    return all([row[place - 1] <= row[place] for place in range(1, len(row))])


def fractions_rise(row):
    return not any([is_less(row[place], row[place - 1]) for place in range(1, len(row))])


def upper_row(numbers):
    row = []
    for number in numbers:
        row.append(number if row == [] else max(row[-1], number))
    return row


def lower_row(numbers):
    row = []
    for number in reversed(numbers):
        row.append(number if row == [] else min(row[-1], number))
    row.reverse()
    return row


# The two places between which the numbers fall the most, and by how much: all 0 if they never fall.
def deepest_fall(numbers):
    deepest = (0, 0, 0)
    top = 0
    for place, number in enumerate(numbers):
        if number > numbers[top]:
            top = place
        depth = numbers[top] - number
        if depth > deepest[2]:
            deepest = (top, place, depth)
    return deepest


# Where numbers fall by no more than twice the most, these two rows rise and cost no more than the most
# themselves, so each place's bound is reached.


def least_stands(numbers, most):
    return [stand - most for stand in upper_row(numbers)]


def greatest_stands(numbers, most):
    return [stand + most for stand in lower_row(numbers)]
