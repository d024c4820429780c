"""Places put into ties of a ring, and places taken out at which no ask begins or ends."""

from ringloads.errors import NoPlace
from ringloads.ratios import lesser
from ringloads.rings import FEWEST_TIES, MOST_TIES
from ringloads.turning import renumbered


def place_put(ring, tie):
    """The ring with a place put into a tie, or NoPlace where it has as many as may be."""
    rooms = ring[0]
    if len(rooms) >= MOST_TIES:
        raise NoPlace("the ring has no room for a place more")
    numbers = [place + 1 if place > tie else place for place in range(len(rooms))]
    return (rooms[:tie + 1] + rooms[tie:], renumbered(ring[1], numbers))


def place_taken(ring, place):
    """The ring with a place taken out, or NoPlace where an ask begins or ends there or the ring has but two."""
    if len(ring[0]) <= FEWEST_TIES or any([place in ask[1:3] for ask in ring[1]]):
        raise NoPlace("the place can't be taken out")
    numbers = [other - 1 if other > place else other for other in range(len(ring[0]))]
    return (joined_rooms(ring[0], place), renumbered(ring[1], numbers))


def joined_rooms(rooms, place):
    """The rooms with those of the two ties of a place made one, the lesser of both."""
    joined = lesser(rooms[place - 1], rooms[place])
    if place == 0:
        return rooms[1:-1] + [joined]
    return rooms[:place - 1] + [joined] + rooms[place + 1:]
