"""The best ways of a ring, with a tree that shows that no ways have a lesser top."""

from ringloads.search import ways_for
from ringloads.sendings import are_ways_with_top, top_by
from ringloads.trees import is_tree
from ringloads.ways import ON


def wish_for_less(ring, top):
    """The wish for ways of a lesser top, whatever asks are turned."""
    return (top, True, [None for ask in ring[1]], 0)


def best_ways(ring):
    """The best top, ways that have it and a tree against a lesser one, as a tuple, or TooMany."""
    ways = [ON for ask in ring[1]]
    while True:
        top = top_by(ring, ways)
        found = ways_for(ring, wish_for_less(ring, top))
        if found[0] == "none":
            return (top, ways, found[1])
        ways = found[1]


def lets_best(ring, thing):
    """Whether a thing of any kind is a best top with its ways and its tree."""
    if not isinstance(thing, tuple) or len(thing) != 3 or not are_ways_with_top(ring, thing[1], thing[0]):
        return False
    return is_tree(ring, wish_for_less(ring, thing[0]), thing[2])
