"""Rings: tuples (rooms, asks), and what refuses things that are none."""

from ringloads.errors import NoRing
from ringloads.names import is_name, is_number_below, is_ratio

FEWEST_TIES = 2
MOST_TIES = 12
MOST_ASKS = 20


def look_at_ring(thing):
    """None where a thing of any kind is a ring, else NoRing."""
    if not isinstance(thing, tuple) or len(thing) != 2:
        raise NoRing("ring", None)
    look_at_rooms(thing[0])
    look_at_asks(thing[1], len(thing[0]))


def is_ring(thing):
    """Whether a thing of any kind is a ring."""
    try:
        look_at_ring(thing)
    except NoRing:
        return False
    return True


def look_at_rooms(rooms):
    """None where a thing of any kind is the rooms of a ring, else NoRing."""
    if not isinstance(rooms, list) or not FEWEST_TIES <= len(rooms) <= MOST_TIES:
        raise NoRing("rooms", None)
    for number, room in enumerate(rooms):
        if not is_ratio(room) or room[0] <= 0:
            raise NoRing("rooms", number)


def look_at_asks(asks, places):
    """None where a thing of any kind is the asks of a ring of so many places, else NoRing."""
    if isinstance(asks, list) and len(asks) > MOST_ASKS:
        raise NoRing("asks", None)
    look_at_each_ask(asks, lambda place: is_number_below(place, places))


def look_at_each_ask(asks, is_end):
    """None where a thing of any kind is a list of asks, names unlike, between places that is_end tells; else NoRing."""
    if not isinstance(asks, list):
        raise NoRing("asks", None)
    taken = {}
    for number, ask in enumerate(asks):
        if not is_ask(ask, is_end) or ask[0] in taken:
            raise NoRing("asks", number)
        taken[ask[0]] = True


def is_ask(thing, is_end):
    """Whether a thing of any kind is an ask between places that is_end tells, other asks aside."""
    if not isinstance(thing, tuple) or len(thing) != 4:
        return False
    if not is_name(thing[0]) or not is_ratio(thing[3]):
        return False
    if not is_end(thing[1]) or not is_end(thing[2]):
        return False
    return thing[1] != thing[2] and thing[3][0] >= 0
