"""Fractions and rings written and read.

What reads a word tells None of one that it can't read: no fraction, no ring has None in it.
"""

from ringloads.errors import NoText
from ringloads.names import is_ratio
from ringloads.rings import is_ring

MOST_FIGURES = 60
ROOMS = "rooms"
ASK = "ask"


def shown_ratio(one):
    """The writing of a fraction."""
    if one[1] == 1:
        return str(one[0])
    top = one[0]
    bottom = one[1]
    return f"{top}/{bottom}"


def whole_in(text):
    """The whole number that a text writes, or None."""
    figures = text[1:] if text.startswith("-") else text
    if not 1 <= len(figures) <= MOST_FIGURES or not all(["0" <= sign <= "9" for sign in figures]):
        return None
    found = int(text)
    # Noughts ahead, and a - ahead of 0, are read by Python, but not written.
    return found if str(found) == text else None


def ratio_in(text):
    """The fraction that a text writes, or None."""
    found = tuple([whole_in(part) for part in text.split("/")])
    if len(found) == 1:
        found = found + (1,)
    # A bottom of 1 is not written.
    return found if is_ratio(found) and shown_ratio(found) == text else None


def read_ratio(text):
    """The fraction that a thing of any kind writes, or NoText."""
    found = ratio_in(text) if isinstance(text, str) else None
    if found is None:
        raise NoText(0)
    return found


def shown_ring(ring):
    """The writing of a ring: a row of rooms, then a row for each ask."""
    rooms = " ".join([ROOMS] + [shown_ratio(room) for room in ring[0]])
    return "\n".join([rooms] + [shown_ask(ask) for ask in ring[1]])


def shown_ask(ask):
    """The row of an ask."""
    return " ".join([ASK, ask[0], str(ask[1]), str(ask[2]), shown_ratio(ask[3])])


def read_ring(text):
    """The ring that a thing of any kind writes, or NoText with the first row behind which it can be none."""
    if not isinstance(text, str):
        raise NoText(0)
    rows = text.split("\n")
    # The first rows of a ring's writing are themselves one: a ring may have fewer asks.
    ring = (rooms_in(rows[0]), [])
    if not is_ring(ring):
        raise NoText(0)
    for number, row in enumerate(rows[1:], start=1):
        ring[1].append(ask_in(row))
        if not is_ring(ring):
            raise NoText(number)
    return ring


def rooms_in(row):
    """The rooms that a row writes, None for each that it doesn't; or None."""
    words = row.split(" ")
    return [ratio_in(word) for word in words[1:]] if words[0] == ROOMS else None


def ask_in(row):
    """The ask that a row writes, None in it for what it doesn't; or None."""
    words = row.split(" ")
    if len(words) != 5 or words[0] != ASK:
        return None
    return (words[1], whole_in(words[2]), whole_in(words[3]), ratio_in(words[4]))
