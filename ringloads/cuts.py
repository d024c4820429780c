"""Cuts: tuples (g, h) of two ties that part the places from g + 1 to h from all others."""

from ringloads.names import are_two_wholes
from ringloads.ratios import over, plus, sum_of, under


def is_cut(ring, thing):
    """Whether a thing of any kind is a cut of the ring."""
    return are_two_wholes(thing) and 0 <= thing[0] <= thing[1] < len(ring[0])


def is_within(cut, place):
    """Whether a place is on the first side of a cut."""
    return cut[0] < place <= cut[1]


def parts_places(cut, one, other):
    """Whether two places stand on unlike sides of a cut."""
    return is_within(cut, one) != is_within(cut, other)


def sides_of(ring, cut):
    """Both sides of a cut, as a tuple of two sorted lists of places."""
    inside = [place for place in range(len(ring[0])) if is_within(cut, place)]
    outside = [place for place in range(len(ring[0])) if not is_within(cut, place)]
    return (inside, outside)


def across(ring, cut):
    """The sizes of all asks whose places stand on both sides, together."""
    return sum_of([ask[3] for ask in ring[1] if parts_places(cut, ask[1], ask[2])])


def rooms_of(ring, cut):
    """The rooms of both ties of a cut together, twice the one where it is one."""
    return plus(ring[0][cut[0]], ring[0][cut[1]])


def shown_by(ring, cut):
    """The top that no sending gets below: what goes across, parted by both rooms."""
    return over(across(ring, cut), rooms_of(ring, cut))


def all_cuts(ring):
    """All cuts of the ring, sorted."""
    cuts = []
    for g in range(len(ring[0])):
        cuts.extend([(g, h) for h in range(g, len(ring[0]))])
    return cuts


def cuts_apart(ring, one, other):
    """All cuts that part two unlike places, sorted."""
    return [cut for cut in all_cuts(ring) if parts_places(cut, one, other)]


def greatest_cut(ring):
    """The most that a cut shows and the first cut that shows it, as a tuple."""
    found = None
    for cut in all_cuts(ring):
        shown = shown_by(ring, cut)
        if found is None or under(found[0], shown):
            found = (shown, cut)
    return found
