"""Strings: lists of tuples (rooms, at), rings of which each but the first hangs at a place ahead of it."""

from ringloads.errors import NoString
from ringloads.names import are_two_wholes, is_number_below
from ringloads.rings import is_ring

MOST_RINGS = 6


def look_at_string(thing):
    """None where a thing of any kind is a string, else NoString."""
    if not isinstance(thing, list) or not 1 <= len(thing) <= MOST_RINGS:
        raise NoString(None)
    for number, one in enumerate(thing):
        if not can_hang(thing[:number], one):
            raise NoString(number)


def can_hang(ahead, thing):
    """Whether a thing of any kind can stand in a string behind those ahead of it."""
    if not isinstance(thing, tuple) or len(thing) != 2 or not is_ring((thing[0], [])):
        return False
    return is_place(ahead, thing[1]) if ahead else thing[1] is None


def is_place(string, thing):
    """Whether a thing of any kind is a place of the string."""
    if not are_two_wholes(thing) or not is_number_below(thing[0], len(string)):
        return False
    # Place 0 of a ring that hangs is the place at which it hangs, and goes by that one's numbers.
    return is_number_below(thing[1], len(string[thing[0]][0])) and (thing[1] != 0 or thing[0] == 0)
