"""Passages through the rings of a string, and asks of a string parted among its rings."""

from ringloads.errors import TooMany
from ringloads.leasts import least_top
from ringloads.ratios import under
from ringloads.rings import MOST_ASKS, look_at_each_ask
from ringloads.strings import is_place, look_at_string


def passages(string, one, other):
    """The passages between two places: tuples (r, one, other), in the order in which one goes."""
    up = climbed_from(string, one)
    down = climbed_from(string, other)
    here = dict(up)
    there = dict(down)
    ahead = [(r, p, 0) for r, p in up if r not in there]
    # Above the ring in which both come together they climb by the same places: there is nothing to pass.
    between = [(r, p, there[r]) for r, p in up if r in there and p != there[r]]
    behind = [(r, 0, p) for r, p in reversed(down) if r not in here]
    return ahead + between + behind


def climbed_from(string, place):
    """The places, one in each ring, by which one climbs from a place to the first ring, where each ring hangs."""
    climbed = [place]
    while climbed[-1][0] != 0:
        climbed.append(string[climbed[-1][0]][1])
    return climbed


def parted_rings(string, asks):
    """A list of rings, each with the asks that pass it; NoString, NoRing, of anything, then TooMany."""
    look_at_string(string)
    look_at_each_ask(asks, lambda place: is_place(string, place))
    rings = [(list(one[0]), []) for one in string]
    for ask in asks:
        for r, enter, leave in passages(string, ask[1], ask[2]):
            rings[r][1].append((ask[0], enter, leave, ask[3]))
    if any([len(ring[1]) > MOST_ASKS for ring in rings]):
        raise TooMany("more asks pass a ring than it can have")
    return rings


def least_of_all(string, asks):
    """The greatest least top of the rings, the first ring that has it, and all leasts, as a tuple."""
    leasts = [least_top(ring) for ring in parted_rings(string, asks)]
    found = 0
    for r, least in enumerate(leasts):
        if under(leasts[found][0], least[0]):
            found = r
    return (leasts[found][0], found, leasts)
