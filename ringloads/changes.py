"""Changes of a ring: an ask more, an ask gone, another size, another room."""

from ringloads.errors import NoChange
from ringloads.names import is_number_below, is_told_as
from ringloads.rings import is_ring

MORE = "more"
GONE = "gone"
SIZE = "size"
ROOM = "room"


def changed(ring, change):
    """The changed ring; NoChange of a thing of any kind that is no change of the ring."""
    made = made_by(list(ring[0]), list(ring[1]), change)
    if not is_ring(made):
        raise NoChange("no change of the ring")
    return made


def made_by(rooms, asks, change):
    """What a thing of any kind makes of rooms and asks, which it may change; None where it has no change's form."""
    if is_told_as(change, MORE, 2):
        asks.append(change[1])
    elif is_told_as(change, GONE, 2) and is_number_below(change[1], len(asks)):
        asks.pop(change[1])
    elif is_told_as(change, SIZE, 3) and is_number_below(change[1], len(asks)):
        asks[change[1]] = asks[change[1]][:3] + (change[2],)
    elif is_told_as(change, ROOM, 3) and is_number_below(change[1], len(rooms)):
        rooms[change[1]] = change[2]
    else:
        return None
    return (rooms, asks)


def carried(ring, change, ways):
    """For each ask of the changed ring its way, None for an ask more; NoChange as changed."""
    # Refused is all that makes no ring, whatever becomes of the ways.
    changed(ring, change)
    taken = list(ways)
    if change[0] == MORE:
        taken.append(None)
    if change[0] == GONE:
        taken.pop(change[1])
    return taken
