"""Fractions: tuples (top, bottom) of whole numbers in lowest terms, bottom from 1 on."""

from ringloads.divisors import greatest_shared
from ringloads.errors import NoNumber
from ringloads.names import is_whole

NOUGHT = (0, 1)


def lowest(top, bottom):
    """The fraction of two whole numbers, bottom not 0."""
    shared = greatest_shared(top, bottom)
    # Parted by a number below nought, a bottom below nought comes out above it.
    if bottom < 0:
        shared = -shared
    return (top // shared, bottom // shared)


def ratio(top, bottom):
    """The fraction of two things of any kind, or NoNumber."""
    if not is_whole(top) or not is_whole(bottom) or bottom == 0:
        raise NoNumber("a fraction is made of two whole numbers, the second not 0")
    return lowest(top, bottom)


def plus(one, other):
    """Both together."""
    return lowest(one[0] * other[1] + other[0] * one[1], one[1] * other[1])


def minus(one, other):
    """The one less the other."""
    return lowest(one[0] * other[1] - other[0] * one[1], one[1] * other[1])


def times(one, other):
    """The one as many times as the other tells."""
    return lowest(one[0] * other[0], one[1] * other[1])


def over(one, other):
    """The one parted by the other, or NoNumber where that is nought."""
    if other[0] == 0:
        raise NoNumber("nothing is parted by nought")
    return lowest(one[0] * other[1], one[1] * other[0])


def under(one, other):
    """Whether the one is less than the other."""
    return one[0] * other[1] < other[0] * one[1]


def greater(one, other):
    """The greater of both."""
    return other if under(one, other) else one


def lesser(one, other):
    """The lesser of both."""
    return other if under(other, one) else one


def sum_of(some):
    """All fractions of a list or tuple together, nought of none."""
    whole = NOUGHT
    for one in some:
        whole = plus(whole, one)
    return whole
