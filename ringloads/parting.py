"""What fits a top where asks may be parted, and how much more of an ask fits.

Asks are sent one by one. Ahead of each, any two ties have free together at least what goes across them of
the asks not yet sent; each ask sends as much on as leaves this so for the ties of its on way, and the ties of
its back way then have enough for the rest.
"""

from ringloads.cuts import across, cuts_apart, greatest_cut, parts_places, rooms_of
from ringloads.ratios import minus, ratio, times, under
from ringloads.units import weighed
from ringloads.ways import ON, is_over, ties_of


def fitting(ring, top):
    """("sending", sending) that fits the top, or ("cut", cut), one that shows more."""
    greatest = greatest_cut(ring)
    if under(top, greatest[0]):
        return ("cut", greatest[1])
    return ("sending", sent_one_by_one(ring, top))


def sent_one_by_one(ring, top):
    """A sending that fits the top, where no cut shows more."""
    scale = weighed(ring, top)
    waiting = scale[1]
    free = scale[2]
    sending = []
    for k, size in enumerate(waiting):
        part = most_on(ring, k, waiting, free)
        free = left_free(ring, k, free, part, size - part)
        sending.append(ratio(part, scale[0]))
    return sending


def most_on(ring, k, waiting, free):
    """As much of ask k as can go on, in units, the asks ahead of it being sent."""
    ties = sorted(ties_of(ring, k, ON))
    twice = 2 * waiting[k]
    for g in ties:
        for h in ties:
            if g <= h:
                twice = min(twice, free[g] + free[h] - still_across(ring, k, waiting, (g, h)))
    # Nothing is lost: what any two ties have free together stays even.
    return twice // 2


def still_across(ring, k, waiting, cut):
    """What goes across a cut of the asks behind ask k, in units."""
    asks = ring[1]
    return sum([waiting[j] for j in range(k + 1, len(asks)) if parts_places(cut, asks[j][1], asks[j][2])])


def left_free(ring, k, free, part, rest):
    """What each tie has free when of ask k the part goes on and the rest goes back."""
    return [room - (part if is_over(ring, k, ON, tie) else rest) for tie, room in enumerate(free)]


def most_more(ring, one, other, top):
    """("most", size, cut): how much more of an ask between two places fits; or ("none", cut)."""
    greatest = greatest_cut(ring)
    if under(top, greatest[0]):
        return ("none", greatest[1])
    most = None
    for cut in cuts_apart(ring, one, other):
        size = left_across(ring, cut, top)
        if most is None or under(size, most[1]):
            most = ("most", size, cut)
    return most


def left_across(ring, cut, top):
    """How much more may go across a cut till it shows just the top."""
    return minus(times(top, rooms_of(ring, cut)), across(ring, cut))
