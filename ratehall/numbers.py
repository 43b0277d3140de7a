"""Whole numbers of any length: divisors, multiples, ratios, and what counts as one."""


def divisor(one, other):
    # A loop, as a recursion would go too deep for long numbers.
    while other > 0:
        rest = one % other
        one = other
        other = rest
    return one


def multiple(one, other):
    return one // divisor(one, other) * other


def ratio(top, bottom):
    common = divisor(top, bottom)
    return (top // common, bottom // common)


def times(one, other):
    return ratio(one[0] * other[0], one[1] * other[1])


def turned(one):
    return (one[1], one[0])


def is_whole(thing):
    # True and False are ints to Python, but no whole numbers here.
    return isinstance(thing, int) and not isinstance(thing, bool)


def is_from(thing, least):
    return is_whole(thing) and thing >= least


def is_number_below(thing, bound):
    # Asked ahead of an index: below 0 a list would count from its end.
    return is_from(thing, 0) and thing < bound
