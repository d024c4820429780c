"""What is told of any thing: whether it is a whole number, a fraction, a name, a tuple that begins with a word."""

from ringloads.divisors import greatest_shared

LONGEST_NAME = 8


def is_whole(thing):
    """Whether a thing of any kind is a whole number."""
    # Python counts True and False among its whole numbers; the program does not.
    return isinstance(thing, int) and not isinstance(thing, bool)


def is_number_below(thing, many):
    """Whether a thing of any kind is the number of one of so many things that are numbered from 0."""
    return is_whole(thing) and 0 <= thing < many


def are_two_wholes(thing):
    """Whether a thing of any kind is a tuple of two whole numbers."""
    return isinstance(thing, tuple) and len(thing) == 2 and is_whole(thing[0]) and is_whole(thing[1])


def is_ratio(thing):
    """Whether a thing of any kind is a fraction in lowest terms."""
    return are_two_wholes(thing) and thing[1] >= 1 and greatest_shared(thing[0], thing[1]) == 1


def is_name(thing):
    """Whether a thing of any kind is a text of one to eight small letters."""
    if not isinstance(thing, str):
        return False
    return 1 <= len(thing) <= LONGEST_NAME and all(["a" <= sign <= "z" for sign in thing])


def is_told_as(thing, word, length):
    """Whether a thing of any kind is a tuple of so many things, the first one this text."""
    if not isinstance(thing, tuple) or len(thing) != length:
        return False
    return isinstance(thing[0], str) and thing[0] == word
