"""Sendings: lists with, for each ask, a fraction: what of it goes on."""

from ringloads.loads import loads_of, top_of
from ringloads.names import is_ratio
from ringloads.ratios import NOUGHT, minus, plus, times, under
from ringloads.ways import BACK, ON, is_way


def first_broken(ring, some, top):
    """The first broken wish of a list of parts: ("part", k), ("load", i), or None."""
    k = first_wrong_part(ring, some)
    if k is not None:
        return ("part", k)
    if top is None:
        return None
    tie = first_tie_above(ring, some, top)
    if tie is not None:
        return ("load", tie)
    return None


def first_wrong_part(ring, some):
    """The first ask whose part is below nought or above its size, or None."""
    for k, part in enumerate(some):
        if under(part, NOUGHT) or under(ring[1][k][3], part):
            return k
    return None


def is_sending(ring, thing):
    """Whether a thing of any kind is a sending of the ring."""
    if not isinstance(thing, list) or len(thing) != len(ring[1]):
        return False
    return all([is_ratio(part) for part in thing]) and first_wrong_part(ring, thing) is None


def first_tie_above(ring, sending, top):
    """The first tie whose load is above top times its room, or None."""
    for tie, load in enumerate(loads_of(ring, sending)):
        if under(times(top, ring[0][tie]), load):
            return tie
    return None


def are_ways(ring, thing):
    """Whether a thing of any kind is ways of the ring."""
    if not isinstance(thing, list) or len(thing) != len(ring[1]):
        return False
    return all([is_way(way) for way in thing])


def sent_by(ring, ways):
    """The sending in which each ask goes whole by its way."""
    return [ask[3] if way == ON else NOUGHT for ask, way in zip(ring[1], ways)]


def top_by(ring, ways):
    """The top of ways, as a fraction."""
    return top_of(ring, sent_by(ring, ways))[0]


def are_ways_with_top(ring, thing, top):
    """Whether two things of any kind are ways of the ring and their top."""
    return are_ways(ring, thing) and is_ratio(top) and top_by(ring, thing) == top


def ways_of(ring, sending):
    """The ways of a whole sending, None of others."""
    ways = []
    for ask, part in zip(ring[1], sending):
        if part != ask[3] and part != NOUGHT:
            return None
        # An ask of nought has both parts at once: it goes on.
        ways.append(ON if part == ask[3] else BACK)
    return ways


def mixed(one, other, share):
    """Two sendings mixed: each part the one's, and the share of by how much the other's is more."""
    return [plus(part, times(share, minus(more, part))) for part, more in zip(one, other)]
