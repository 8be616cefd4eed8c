"""The rising rows nearest to numbers: by the greatest change, by sum and by squares."""

from uprow.answers import Evened, Squared, Summed
from uprow.checks import check_numbers, check_weights
from uprow.fractions import is_less, lowest
from uprow.heaps import put_in, take_shares
from uprow.rising import deepest_fall, least_stands, lower_row


def evened(numbers):
    check_numbers(numbers)
    fall = deepest_fall(numbers)
    # Half the deepest fall, rounded up: the two ends of the fall can't both be changed by less.
    cost = (fall[2] + 1) // 2
    return Evened(least_stands(numbers, cost), fall[0], fall[1])


# For each place, the height at which a rising row up to there, taken alone, ends most cheaply.
def cheapest_ends(numbers, weights):
    # The heap holds where, and by how much, the slope of the least cost over the end's height changes. A number
    # changes it by twice its weight at itself. What then lies on the way up is cut off: a row that may end
    # higher need not.
    heap = []
    ends = []
    for number, weight in zip(numbers, weights):
        put_in(heap, number, 2 * weight)
        take_shares(heap, weight)
        ends.append(heap[0][0])
    return ends


def greatest_pull(number, stand, weight):
    return weight if number >= stand else -weight


def least_pull(number, stand, weight):
    return weight if number > stand else -weight


# The greatest sums that pulls may have, counted from where each height of the row begins.
def sums_from_ahead(numbers, row, weights):
    sums = []
    total = 0
    for place, stand in enumerate(row):
        if place > 0 and stand > row[place - 1]:
            total = 0
        total += greatest_pull(numbers[place], stand, weights[place])
        sums.append(total)
    return sums


# The greatest sums that pulls may have so that they still come down to 0 where each height ends.
def sums_from_behind(numbers, row, weights):
    sums = []
    total = 0
    for place in range(len(row) - 1, -1, -1):
        if place + 1 < len(row) and row[place] < row[place + 1]:
            total = 0
        sums.append(total)
        total -= least_pull(numbers[place], row[place], weights[place])
    sums.reverse()
    return sums


def pulls_of(numbers, row, weights):
    # Beside a row of least cost, a pull is the whole weight towards its number, free where the row stands at the
    # number, and the sums are 0 where the row goes up. Of such pulls the ones with the greatest sums are taken:
    # if those fell below 0, all would.
    pulls = []
    reached = 0
    ahead = sums_from_ahead(numbers, row, weights)
    behind = sums_from_behind(numbers, row, weights)
    for one, other in zip(ahead, behind):
        pulls.append(min(one, other) - reached)
        reached = min(one, other)
    return pulls


def summed(numbers, weights):
    check_numbers(numbers)
    check_weights(numbers, weights)
    row = lower_row(cheapest_ends(numbers, weights))
    return Summed(row, pulls_of(numbers, row, weights))


def joined(one, other):
    return (one[0] + other[0], one[1] + other[1], one[2] + other[2])


# Runs of places of one height: their weighted numbers together, their weights together, and their count.
def level_runs(numbers, weights):
    runs = []
    for number, weight in zip(numbers, weights):
        run = (number * weight, weight, 1)
        # The first two parts are the run's height as a fraction. Only a run that is lower may stay ahead.
        while runs != [] and not is_less(runs[-1], run):
            run = joined(runs.pop(), run)
        runs.append(run)
    return runs


def squared(numbers, weights):
    check_numbers(numbers)
    check_weights(numbers, weights)
    row = []
    for run in level_runs(numbers, weights):
        row.extend([lowest(run[0], run[1])] * run[2])
    return Squared(row)
