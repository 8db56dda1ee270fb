"""Fractions: tuples (top, bottom) in lowest terms."""


def fraction(top, bottom):
    """The fraction of these in lowest terms."""
    common = common_part(abs(top), bottom)
    return (top // common, bottom // common)


def common_part(one, other):
    """The greatest whole number by which both can be parted without a rest."""
    while other > 0:
        rest = one % other
        one = other
        other = rest
    return one


def summed(some):
    """The sum of fractions, 0 of none."""
    total = (0, 1)
    for top, bottom in some:
        total = fraction(total[0] * bottom + top * total[1], total[1] * bottom)
    return total


def is_above(one, other):
    """Whether the first fraction is the greater one."""
    return one[0] * other[1] > other[0] * one[1]
