"""Roundings: slides and ways that make a sending whole, at a loss of no more than told on any tie.

Behind the slides all parted asks cross one another. In the order of their lesser places, each one's gain is by how
much more goes by rising numbers; the sums of the first so many gains stay within half of the greatest size.
"""

from ringloads.crossing import first_side_by_side, lesser_place, parted_in
from ringloads.errors import NoSlide
from ringloads.leasts import least_top
from ringloads.ratios import NOUGHT, greater, minus, plus, times, under
from ringloads.sendings import are_ways, top_by
from ringloads.slides import slid_by, slides_for
from ringloads.ways import BACK, ON, other_way

HALF = (1, 2)


def lets_rounding(ring, sending, thing):
    """Whether a thing of any kind is a rounding of the sending."""
    if not isinstance(thing, tuple) or len(thing) != 2 or not are_ways(ring, thing[1]):
        return False
    try:
        slid = slid_by(ring, sending, thing[0])
    except NoSlide:
        return False
    parted = parted_in(ring, slid)
    if first_side_by_side(ring, parted) is not None:
        return False
    return keeps_whole_asks(ring, slid, parted, thing[1]) and keeps_within(ring, slid, parted, thing[1])


def keeps_whole_asks(ring, slid, parted, ways):
    """Whether each ask that isn't parted goes by its way as it goes already."""
    for k, ask in enumerate(ring[1]):
        if k not in parted and ask[3] != NOUGHT and ways[k] != nearest_way(ask, slid[k]):
            return False
    return True


def nearest_way(ask, part):
    """On where all of the ask goes on, else back."""
    return ON if part == ask[3] else BACK


def keeps_within(ring, slid, parted, ways):
    """Whether the sums of the first so many gains are all within half of the greatest size of the parted asks."""
    half = half_of_greatest(ring, parted)
    whole = NOUGHT
    for k in by_lesser_place(ring, parted):
        whole = plus(whole, gain_of(ring, slid, k, ways[k]))
        if under(half, whole) or under(whole, minus(NOUGHT, half)):
            return False
    return True


def half_of_greatest(ring, some):
    """Half of the greatest size of a list of asks, nought of none."""
    greatest = NOUGHT
    for k in some:
        greatest = greater(greatest, ring[1][k][3])
    return times(greatest, HALF)


def by_lesser_place(ring, some):
    """A list of asks in the order of their lesser places."""
    return sorted(some, key=lambda k: lesser_place(ring, k))


def rising_way(ring, k):
    """The way of ask k that goes from its lesser to its greater place by rising numbers."""
    return ON if ring[1][k][1] < ring[1][k][2] else BACK


def gain_of(ring, sending, k, way):
    """By how much more of ask k goes by rising numbers when it goes whole by a way."""
    size = ring[1][k][3]
    rising = sending[k] if rising_way(ring, k) == ON else minus(size, sending[k])
    return minus(size if way == rising_way(ring, k) else NOUGHT, rising)


def rounding_of(ring, sending):
    """A rounding of the sending, with no more slides than it has parted asks."""
    slides = slides_for(ring, sending)
    return (slides, rounded_ways(ring, slid_by(ring, sending, slides)))


def rounded_ways(ring, slid):
    """Ways for a sending whose parted asks all cross."""
    parted = parted_in(ring, slid)
    ways = [nearest_way(ask, part) for ask, part in zip(ring[1], slid)]
    half = half_of_greatest(ring, parted)
    whole = NOUGHT
    for k in by_lesser_place(ring, parted):
        ways[k] = rising_way(ring, k)
        # Both ways' gains are apart by the ask's size, so where the one sum is above the half, the other is within.
        if under(half, plus(whole, gain_of(ring, slid, k, ways[k]))):
            ways[k] = other_way(ways[k])
        whole = plus(whole, gain_of(ring, slid, k, ways[k]))
    return ways


def near_whole(ring):
    """A tuple (ways, top, rounding, least): least with its sending, a rounding of that, its ways and their top."""
    least = least_top(ring)
    rounding = rounding_of(ring, least[1])
    ways = list(rounding[1])
    return (ways, top_by(ring, ways), rounding, least)
