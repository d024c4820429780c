"""Slides: of two asks more goes by two ways that share no tie, so no load gets greater."""

from ringloads.crossing import first_side_by_side, parted_in
from ringloads.errors import NoSlide
from ringloads.names import is_number_below, is_ratio
from ringloads.ratios import NOUGHT, lesser, minus, plus, under
from ringloads.ways import BACK, ON, is_way, ties_of


def slid_by(ring, sending, thing):
    """The sending behind a list of slides, done one behind the other; NoSlide of all other things."""
    if not isinstance(thing, list):
        raise NoSlide(None)
    slid = list(sending)
    for number, slide in enumerate(thing):
        if not is_slide(ring, slid, slide):
            raise NoSlide(number)
        slid = slid_once(slid, slide)
    return slid


def is_slide(ring, sending, thing):
    """Whether a thing of any kind is a slide of the sending."""
    if not has_form_of_slide(thing, len(ring[1])) or thing[0] == thing[2]:
        return False
    if not share_no_tie(ring, thing[0], thing[1], thing[2], thing[3]):
        return False
    return under(NOUGHT, thing[4]) and not under(most_slid(ring, sending, thing), thing[4])


def has_form_of_slide(thing, asks):
    """Whether a thing of any kind is a tuple of one of so many asks, a way, an ask, a way and a fraction."""
    if not isinstance(thing, tuple) or len(thing) != 5:
        return False
    if not is_number_below(thing[0], asks) or not is_number_below(thing[2], asks):
        return False
    return is_way(thing[1]) and is_way(thing[3]) and is_ratio(thing[4])


def share_no_tie(ring, k, way, l, other):
    """Whether a way of ask k and a way of ask l have no tie in common."""
    taken = ties_of(ring, l, other)
    return not any([tie in taken for tie in ties_of(ring, k, way)])


def not_sent(ring, sending, k, way):
    """What of ask k does not go by a way."""
    return minus(ring[1][k][3], sending[k]) if way == ON else sending[k]


def most_slid(ring, sending, slide):
    """The greatest amount that can be slid by the asks and ways of a slide."""
    return lesser(not_sent(ring, sending, slide[0], slide[1]), not_sent(ring, sending, slide[2], slide[3]))


def slid_once(sending, slide):
    """The sending behind one slide."""
    slid = list(sending)
    slid[slide[0]] = part_behind(slid[slide[0]], slide[1], slide[4])
    slid[slide[2]] = part_behind(slid[slide[2]], slide[3], slide[4])
    return slid


def part_behind(part, way, amount):
    """The part of an ask of which so much more goes by a way."""
    return plus(part, amount) if way == ON else minus(part, amount)


def slides_for(ring, sending):
    """Slides behind which any two asks that are still parted cross, no more of them than there are parted asks."""
    slid = sending
    slides = []
    pair = first_side_by_side(ring, parted_in(ring, slid))
    while pair is not None:
        # As much as can be slid: one of both asks is parted no more, so the parted ones get fewer each time.
        slide = greatest_slide(ring, slid, pair[0], pair[1])
        slides.append(slide)
        slid = slid_once(slid, slide)
        pair = first_side_by_side(ring, parted_in(ring, slid))
    return slides


def greatest_slide(ring, sending, k, l):
    """The slide of two asks that stand side by side with the greatest amount."""
    ways = ways_apart(ring, k, l)
    slide = (k, ways[0], l, ways[1])
    return slide + (most_slid(ring, sending, slide),)


def ways_apart(ring, k, l):
    """A way of each of two asks that stand side by side, that share no tie, as a tuple."""
    for ways in ((ON, ON), (ON, BACK), (BACK, ON)):
        if share_no_tie(ring, k, ways[0], l, ways[1]):
            return ways
    return (BACK, BACK)
