"""Ways round a ring: on, to greater places, and back, to lesser ones."""

ON = "on"
BACK = "back"


def is_way(thing):
    """Whether a thing of any kind is a way."""
    return isinstance(thing, str) and thing in (ON, BACK)


def other_way(way):
    """Back for on, on for back."""
    return BACK if way == ON else ON


def ties_of(ring, k, way):
    """The ties of a way of ask k, in the order in which one goes."""
    places = len(ring[0])
    one = ring[1][k][1]
    other = ring[1][k][2]
    if way == ON:
        return [(one + step) % places for step in range((other - one) % places)]
    # Going back from a place, one comes first over the tie numbered one less.
    return [(one - 1 - step) % places for step in range((one - other) % places)]


def is_over(ring, k, way, tie):
    """Whether a tie is on a way of ask k."""
    places = len(ring[0])
    one = ring[1][k][1]
    other = ring[1][k][2]
    lies_on = (tie - one) % places < (other - one) % places
    return lies_on == (way == ON)
