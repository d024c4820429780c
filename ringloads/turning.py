"""Rings turned, mirrored, scaled, with asks told the other way round, and sendings taken along."""

from ringloads.ratios import minus, times


def turned_ring(ring, many):
    """The ring whose places, and ties, have numbers greater by so many, round behind the last."""
    places = len(ring[0])
    rooms = [ring[0][(tie - many) % places] for tie in range(places)]
    return (rooms, renumbered(ring[1], [(place + many) % places for place in range(places)]))


def mirrored_ring(ring):
    """The ring whose places are numbered from the last one down; the last tie stays the last one."""
    places = len(ring[0])
    rooms = list(reversed(ring[0][:-1])) + ring[0][-1:]
    return (rooms, renumbered(ring[1], [places - 1 - place for place in range(places)]))


def renumbered(asks, numbers):
    """The asks between the same places, each place with the number that the list has for it."""
    return [(ask[0], numbers[ask[1]], numbers[ask[2]], ask[3]) for ask in asks]


def scaled_ring(ring, size, room):
    """The ring with all sizes and all rooms so many times as much."""
    asks = [ask[:3] + (times(ask[3], size),) for ask in ring[1]]
    return ([times(one, room) for one in ring[0]], asks)


def told_round(ring, some):
    """The ring with one and other exchanged of a list of asks."""
    asks = [(ask[0], ask[2], ask[1], ask[3]) if k in some else ask for k, ask in enumerate(ring[1])]
    return (list(ring[0]), asks)


def rest_of(ring, sending, k):
    """What of ask k goes back."""
    return minus(ring[1][k][3], sending[k])


def mirrored_sending(ring, sending):
    """The sending of the mirrored ring that sends the same."""
    return [rest_of(ring, sending, k) for k in range(len(sending))]


def scaled_sending(sending, size):
    """The sending of the ring with its sizes so many times as much."""
    return [times(part, size) for part in sending]


def round_sending(ring, some, sending):
    """The sending of the ring with a list of asks told the other way round that sends the same."""
    return [rest_of(ring, sending, k) if k in some else part for k, part in enumerate(sending)]
