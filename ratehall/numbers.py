"""Divisors and multiples of whole numbers, and ratios, of any length."""


def divisor(one, other):
    # A loop, as a recursion would go too deep for long numbers.
    while other > 0:
        rest = one % other
        one = other
        other = rest
    return one


def multiple(one, other):
    return one // divisor(one, other) * other


def ratio(top, bottom):
    common = divisor(top, bottom)
    return (top // common, bottom // common)


def times(one, other):
    return ratio(one[0] * other[0], one[1] * other[1])


def turned(one):
    return (one[1], one[0])
