"""What whole numbers share, and what they have in common."""


def greatest_shared(one, other):
    """The greatest whole number that divides both; of two noughts 0."""
    while other != 0:
        rest = one % other
        one = other
        other = rest
    return abs(one)
