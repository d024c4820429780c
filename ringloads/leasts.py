"""The least top of a ring: a sending that has it, and a cut that shows that no less will do."""

from ringloads.cuts import greatest_cut, is_cut, shown_by
from ringloads.loads import top_of
from ringloads.names import is_ratio
from ringloads.parting import sent_one_by_one
from ringloads.sendings import is_sending


def least_top(ring):
    """The least top, a sending with just this top and a cut that shows just it, as a tuple."""
    greatest = greatest_cut(ring)
    return (greatest[0], sent_one_by_one(ring, greatest[0]), greatest[1])


def lets_least(ring, thing):
    """Whether a thing of any kind is a least top with its sending and its cut."""
    if not isinstance(thing, tuple) or len(thing) != 3 or not is_ratio(thing[0]):
        return False
    return has_top(ring, thing[1], thing[0]) and shows_top(ring, thing[2], thing[0])


def has_top(ring, thing, top):
    """Whether a thing of any kind is a sending with just this top."""
    return is_sending(ring, thing) and top_of(ring, thing)[0] == top


def shows_top(ring, thing, top):
    """Whether a thing of any kind is a cut that shows just this top."""
    return is_cut(ring, thing) and shown_by(ring, thing) == top
