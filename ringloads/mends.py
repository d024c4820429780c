"""Mends: ways of a changed ring with the least top and, of those, the fewest asks turned, each shown by a tree."""

from ringloads.best import best_ways
from ringloads.changes import carried, changed
from ringloads.names import is_whole
from ringloads.search import ways_for
from ringloads.sendings import are_ways_with_top
from ringloads.trees import is_tree
from ringloads.wishes import MOST_TURNED, turned_by


def lets_mend(ring, ways, change, thing):
    """Whether a thing of any kind is a mend of the ways by the change; NoChange ahead of that."""
    made = changed(ring, change)
    elder = carried(ring, change, ways)
    if not isinstance(thing, tuple) or len(thing) != 5 or not are_ways_with_top(made, thing[1], thing[0]):
        return False
    turned = turned_by(elder, thing[1])
    if not are_just(thing[2], turned) or not is_tree(made, (thing[0], True, elder, MOST_TURNED), thing[3]):
        return False
    if not turned:
        return thing[4] is None
    return is_tree(made, (thing[0], False, elder, len(turned) - 1), thing[4])


def are_just(thing, numbers):
    """Whether a thing of any kind is a list of just these whole numbers, in their order."""
    # True is like 1 to Python, so the kinds are looked at first.
    return isinstance(thing, list) and all([is_whole(one) for one in thing]) and thing == numbers


def mend_of(ring, ways, change):
    """A mend of the ways by the change, as a tuple, or NoChange, then TooMany."""
    made = changed(ring, change)
    elder = carried(ring, change, ways)
    # The tree against a lesser top has no turned in it, so it stands whatever the elder ways are.
    best = best_ways(made)
    most = 0
    other = None
    found = ways_for(made, (best[0], False, elder, most))
    while found[0] == "none":
        other = found[1]
        most += 1
        found = ways_for(made, (best[0], False, elder, most))
    return (best[0], found[1], turned_by(elder, found[1]), best[2], other)
