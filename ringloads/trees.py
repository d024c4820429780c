"""Trees: tuples of cuts, turneds and splits that show that no ways of a ring keep a wish."""

from ringloads.cuts import is_cut, parts_places
from ringloads.errors import NoTree
from ringloads.names import is_number_below, is_told_as
from ringloads.units import weighed
from ringloads.ways import BACK, ON, is_over
from ringloads.wishes import are_too_many, is_too_much

CUT = "cut"
TURNED = "turned"
SPLIT = "split"
MOST_WALKED = 300


def is_split(thing):
    """Whether a thing of any kind is a tuple of four things that begins as a split does."""
    return is_told_as(thing, SPLIT, 4)


def look_at_tree(ring, wish, thing):
    """None where a thing of any kind is a tree for the wish, else NoTree."""
    scale = weighed(ring, wish[0])
    ahead = [(thing, [None for ask in ring[1]], [])]
    walked = 0
    while ahead:
        here = ahead.pop()
        walked += 1
        if walked > MOST_WALKED or not can_stand(ring, wish, scale, here[1], here[0]):
            raise NoTree(here[2])
        if is_split(here[0]):
            # The last one put in is the first one taken out: on goes ahead of back.
            ahead.append(branch_of(here, BACK))
            ahead.append(branch_of(here, ON))


def is_tree(ring, wish, thing):
    """Whether a thing of any kind is a tree for the wish."""
    try:
        look_at_tree(ring, wish, thing)
    except NoTree:
        return False
    return True


def branch_of(here, way):
    """Where one comes from a split by a way: a tuple (tree, fixed, way)."""
    tree = here[0]
    fixed = list(here[1])
    fixed[tree[1]] = way
    return (tree[2] if way == ON else tree[3], fixed, here[2] + [way])


def can_stand(ring, wish, scale, fixed, thing):
    """Whether a thing of any kind is one of the three tuples, and right under the fixed asks, its trees aside."""
    if is_told_as(thing, TURNED, 1):
        return are_too_many(wish, fixed)
    if is_told_as(thing, CUT, 3):
        return is_cut(ring, thing[1:]) and is_too_full(ring, wish, scale, fixed, thing[1:])
    return is_split(thing) and is_number_below(thing[1], len(fixed)) and fixed[thing[1]] is None


def is_too_full(ring, wish, scale, fixed, cut):
    """Whether a cut's two ties together bear too much, however the asks go that aren't fixed."""
    most = scale[2]
    load = sum([size * times_over(ring, k, fixed[k], cut) for k, size in enumerate(scale[1])])
    return is_too_much(wish, load, most[cut[0]] + most[cut[1]])


def times_over(ring, k, way, cut):
    """How often ask k comes over a cut's two ties: by its way, or, of an ask without one, by either way."""
    if way is None:
        return 1 if parts_places(cut, ring[1][k][1], ring[1][k][2]) else 0
    return len([tie for tie in cut if is_over(ring, k, way, tie)])


def counted_in(tree):
    """How many cuts, turneds and splits a tree has, as a tuple."""
    counts = {CUT: 0, TURNED: 0, SPLIT: 0}
    ahead = [tree]
    while ahead:
        here = ahead.pop()
        counts[here[0]] += 1
        if here[0] == SPLIT:
            ahead.extend(here[2:])
    return (counts[CUT], counts[TURNED], counts[SPLIT])
