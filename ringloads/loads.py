"""What a sending loads each tie with, and how much that strains it."""

from ringloads.ratios import minus, over, sum_of, under
from ringloads.ways import ON, is_over


def sent_over(ring, sending, k, tie):
    """What of ask k goes over a tie: its part, or the rest of its size."""
    if is_over(ring, k, ON, tie):
        return sending[k]
    return minus(ring[1][k][3], sending[k])


def load_of(ring, sending, tie):
    """What goes over one tie."""
    return sum_of([sent_over(ring, sending, k, tie) for k in range(len(ring[1]))])


def loads_of(ring, sending):
    """What goes over each tie."""
    return [load_of(ring, sending, tie) for tie in range(len(ring[0]))]


def strains_of(ring, sending):
    """Each tie's load parted by its room."""
    return [over(load, room) for load, room in zip(loads_of(ring, sending), ring[0])]


def top_of(ring, sending):
    """The greatest strain and the first tie that has it, as a tuple."""
    strains = strains_of(ring, sending)
    top = 0
    for tie, strain in enumerate(strains):
        if under(strains[top], strain):
            top = tie
    return (strains[top], top)
