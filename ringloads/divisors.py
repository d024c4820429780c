"""What divides two whole numbers, and what two whole numbers divide."""


def greatest_shared(one, other):
    """The greatest whole number that divides both; of two noughts 0."""
    while other != 0:
        rest = one % other
        one = other
        other = rest
    return abs(one)


def least_common(one, other):
    """The least whole number from 1 on that both divide; both from 1 on."""
    return one // greatest_shared(one, other) * other
