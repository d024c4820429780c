"""Asks between the same two places put together, and sendings of them."""

from ringloads.ratios import sum_of
from ringloads.turning import rest_of


def asks_like(ring, k):
    """All asks between the two places of ask k, told either way round, rising."""
    ends = sorted(ring[1][k][1:3])
    return [l for l, ask in enumerate(ring[1]) if sorted(ask[1:3]) == ends]


def first_asks(ring):
    """The asks ahead of which none goes between the same two places, rising."""
    return [k for k in range(len(ring[1])) if asks_like(ring, k)[0] == k]


def put_together(ring):
    """The ring with, for all asks between the same two places, the first one with all their sizes."""
    asks = ring[1]
    joined = [asks[k][:3] + (sum_of([asks[l][3] for l in asks_like(ring, k)]),) for k in first_asks(ring)]
    return (list(ring[0]), joined)


def sent_together(ring, sending):
    """The sending of the ring with its asks put together that sends the same."""
    return [sum_of([sent_as(ring, sending, k, l) for l in asks_like(ring, k)]) for k in first_asks(ring)]


def sent_as(ring, sending, k, l):
    """What of ask l goes as ask k goes on, both between the same two places."""
    return sending[l] if ring[1][l][1] == ring[1][k][1] else rest_of(ring, sending, l)
