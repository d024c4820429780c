"""Sizes and rooms as whole numbers of one small unit.

Long fractions would have to be brought to lowest terms at each step; whole numbers are added as they are.
"""

from ringloads.divisors import least_common
from ringloads.ratios import times


def weighed(ring, top):
    """A tuple (units, sizes, most): how many units are one; each ask's size, and top times each room, in units."""
    sizes = [ask[3] for ask in ring[1]]
    most = [times(top, room) for room in ring[0]]
    # Twice as small as sizes and rooms need, so that halves are whole, too.
    units = 2 * common_bottom(sizes + most)
    return (units, in_units(sizes, units), in_units(most, units))


def common_bottom(some):
    """The least bottom that all fractions of a list can be told with."""
    bottom = 1
    for one in some:
        bottom = least_common(bottom, one[1])
    return bottom


def in_units(some, units):
    """How many units each fraction of a list is, where so many units are one."""
    return [one[0] * (units // one[1]) for one in some]
