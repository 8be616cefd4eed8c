"""Fractions as pairs of whole numbers, the first by the second: in lowest terms, the second from 1 on."""


def common_divisor(one, other):
    # Without sign, so that a negative number has the same divisors as its opposite.
    divisor = abs(one)
    rest = abs(other)
    while rest != 0:
        left = divisor % rest
        divisor = rest
        rest = left
    return divisor


def lowest(top, bottom):
    divisor = common_divisor(top, bottom)
    return (top // divisor, bottom // divisor)


def plus(one, other):
    # What the sum's two parts still share divides what the two bottoms share. Looking for it there alone
    # keeps a long sum quick, whose own parts grow large while each fraction added stays small.
    shared = common_divisor(one[1], other[1])
    own_part = one[1] // shared
    top = one[0] * (other[1] // shared) + other[0] * own_part
    still_shared = common_divisor(top, shared)
    return (top // still_shared, own_part * (other[1] // still_shared))


def is_less(one, other):
    return one[0] * other[1] < other[0] * one[1]
