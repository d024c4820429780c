"""Ways that keep a wish, or a tree that shows that there are none."""

from ringloads.cuts import all_cuts, parts_places
from ringloads.errors import TooMany
from ringloads.trees import CUT, SPLIT, TURNED
from ringloads.units import weighed
from ringloads.ways import BACK, ON, is_over
from ringloads.wishes import are_too_many, is_too_much

# Split at each of seven asks, a tree has 255 tuples, which is within the three hundred that are walked.
MOST_SEARCHED = 7


def ways_for(ring, wish):
    """("ways", ways) that keep the wish, or ("none", tree), or TooMany."""
    if len(ring[1]) > MOST_SEARCHED:
        raise TooMany("ways are searched for at most seven asks")
    scale = weighed(ring, wish[0])
    return searched(ring, wish, scale[1], bounds_of(ring, scale), [], [0 for room in ring[0]])


def bounds_of(ring, scale):
    """For each count of last asks that wait, tuples (cut, bound): what all others may load both ties with."""
    most = scale[2]
    bounds = [[(cut, most[cut[0]] + most[cut[1]]) for cut in all_cuts(ring)]]
    for ask, size in reversed(list(zip(ring[1], scale[1]))):
        bounds.append([(cut, bound - (size if parts_places(cut, ask[1], ask[2]) else 0)) for cut, bound in bounds[-1]])
    return bounds


def searched(ring, wish, sizes, bounds, fixed, loads):
    """What ways_for tells, where the first asks go by the fixed ways and load the ties so."""
    k = len(fixed)
    reason = reason_against(wish, bounds[len(sizes) - k], fixed, loads)
    if reason is not None:
        return ("none", reason)
    if k == len(sizes):
        return ("ways", fixed)
    trees = []
    for way in (ON, BACK):
        fuller = [load + (sizes[k] if is_over(ring, k, way, tie) else 0) for tie, load in enumerate(loads)]
        found = searched(ring, wish, sizes, bounds, fixed + [way], fuller)
        if found[0] == "ways":
            return found
        trees.append(found[1])
    return ("none", (SPLIT, k, trees[0], trees[1]))


def reason_against(wish, bounds, fixed, loads):
    """A turned or a cut that stands under the fixed ways, or None."""
    if are_too_many(wish, fixed):
        return (TURNED,)
    for cut, bound in bounds:
        if is_too_much(wish, loads[cut[0]] + loads[cut[1]], bound):
            return (CUT, cut[0], cut[1])
    return None
