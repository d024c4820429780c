"""Which asks cross one another, and which are parted in a sending."""

from ringloads.ratios import NOUGHT, under


def lesser_place(ring, k):
    """The lesser of the two places of ask k."""
    return min(ring[1][k][1], ring[1][k][2])


def greater_place(ring, k):
    """The greater of the two places of ask k."""
    return max(ring[1][k][1], ring[1][k][2])


def do_cross(ring, k, l):
    """Whether two unlike asks cross; else they stand side by side."""
    low = lesser_place(ring, k)
    high = greater_place(ring, k)
    first = lesser_place(ring, l)
    last = greater_place(ring, l)
    return low < first < high < last or first < low < last < high


def parted_in(ring, sending):
    """The asks of which some goes on and some goes back, rising."""
    return [k for k, part in enumerate(sending) if under(NOUGHT, part) and under(part, ring[1][k][3])]


def first_side_by_side(ring, some):
    """The first two of a list of asks that do not cross, as a tuple, or None."""
    for number, k in enumerate(some):
        for l in some[number + 1:]:
            if not do_cross(ring, k, l):
                return (k, l)
    return None
