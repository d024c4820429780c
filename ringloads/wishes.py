"""Wishes for ways of a ring: tuples (top, strict, elder, most)."""

from ringloads.loads import strains_of
from ringloads.names import is_ratio, is_whole
from ringloads.sendings import sent_by
from ringloads.ways import is_way, other_way

MOST_TURNED = 20


def is_wish(ring, thing):
    """Whether a thing of any kind is a wish for ways of the ring."""
    if not isinstance(thing, tuple) or len(thing) != 4:
        return False
    if not is_ratio(thing[0]) or thing[0][0] < 0 or not isinstance(thing[1], bool):
        return False
    return are_elder_ways(ring, thing[2]) and is_whole(thing[3]) and 0 <= thing[3] <= MOST_TURNED


def are_elder_ways(ring, thing):
    """Whether a thing of any kind is a list with, for each ask, a way or None."""
    if not isinstance(thing, list) or len(thing) != len(ring[1]):
        return False
    return all([way is None or is_way(way) for way in thing])


def turned_by(elder, ways):
    """The asks that have a way in elder and the other one in ways, rising."""
    pairs = list(zip(elder, ways))
    return [k for k, pair in enumerate(pairs) if pair[0] is not None and pair[1] == other_way(pair[0])]


def is_too_much(wish, load, bound):
    """Whether a load breaks the wish where top comes to the bound; both whole numbers of one unit."""
    return load > bound or (wish[1] and load == bound)


def are_too_many(wish, ways):
    """Whether more asks are turned than the wish lets be; ways may be those of the first asks, or None for some."""
    return len(turned_by(wish[2], ways)) > wish[3]


def broken_wish(ring, wish, ways):
    """The first broken of a wish: ("load", i), ("turned", many), or None where the ways keep it."""
    top = wish[0]
    for tie, strain in enumerate(strains_of(ring, sent_by(ring, ways))):
        if is_too_much(wish, strain[0] * top[1], top[0] * strain[1]):
            return ("load", tie)
    if are_too_many(wish, ways):
        return ("turned", len(turned_by(wish[2], ways)))
    return None
