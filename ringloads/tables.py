"""What goes across any two ties of a ring, and how four ties hang together."""

from ringloads.cuts import across, is_within
from ringloads.ratios import sum_of


def table_of(ring):
    """A list of lists: at g, there at h, what goes across the cut of ties g and h."""
    return [row_of(ring, g) for g in range(len(ring[0]))]


def row_of(ring, g):
    """What goes across tie g and each tie."""
    return [across(ring, (min(g, h), max(g, h))) for h in range(len(ring[0]))]


def extra_of(ring, g, h, p, q):
    """What is asked between the places from h + 1 to p and those that are not from g + 1 to q."""
    inner = (h, p)
    outer = (g, q)
    return sum_of([ask[3] for ask in ring[1] if reaches_out(inner, outer, ask[1], ask[2])])


def reaches_out(inner, outer, one, other):
    """Whether the one of two places is within the inner cut, the other one not within the outer one."""
    if is_within(inner, one):
        return not is_within(outer, other)
    return is_within(inner, other) and not is_within(outer, one)
