"""Rings, fractions and things of every kind that several tests draw on.

Nothing of the program is used here, so a fault of it can't hide in here too.
"""

import copy
import random
from fractions import Fraction
from math import gcd

SIXTY = 10 ** 60 - 1


def odd_things():
    """Things of many kinds, made anew for each asker."""
    return [
        None, True, False, 0, 1, 2, -1, 10 ** 60, "", "a", "on", "back", "ring", "1", "(0, 1)",
        b"", b"on", [], [1], [None], [[]], [1, 2], ["on"], (), (1,), (0, 1), (1, 2), (2, 4), (1, 0),
        (True, 1), (1, True), (0, 2), (1, -2), ("a", "b"), ([], []), (None, None), (1, 2, 3),
        {}, {0: 1, 1: 2}, {"a": 1}, set(), {1, 2}, frozenset(), range(2), len, int, tuple, object(),
        Fraction(1, 2), Ellipsis, ValueError("a"), iter([]), (lambda: None),
    ]


def told(number):
    """A Fraction in the program's form."""
    number = Fraction(number)
    return (number.numerator, number.denominator)


def number_of(one):
    """A fraction of the program's form as a Fraction."""
    return Fraction(one[0], one[1])


def has_form_of_ratio(thing):
    """Whether a thing is a fraction, to the kinds and forms."""
    if type(thing) is not tuple or len(thing) != 2:
        return False
    if type(thing[0]) is not int or type(thing[1]) is not int:
        return False
    return thing[1] >= 1 and gcd(thing[0], thing[1]) == 1


def name_of(number):
    """An unlike name for each number."""
    letters = ""
    while True:
        letters = "abcdefghijklmnopqrstuvwxyz"[number % 26] + letters
        number = number // 26
        if number == 0:
            return letters


def plain_ring(places, asks):
    """A ring with rooms of one; asks are tuples (one, other, size), size whole."""
    return (
        [(1, 1) for tie in range(places)],
        [(name_of(k), one, other, (size, 1)) for k, (one, other, size) in enumerate(asks)],
    )


def some_ring(chance, places, asks, ratio_of):
    """A ring drawn by chance; ratio_of(chance, from_nought) draws a fraction."""
    rooms = [ratio_of(chance, False) for tie in range(places)]
    drawn = []
    for k in range(asks):
        one, other = chance.sample(range(places), 2)
        drawn.append((name_of(k), one, other, ratio_of(chance, True)))
    return (rooms, drawn)


def small_ratio(chance, from_nought):
    """A fraction of small numbers."""
    return told(Fraction(chance.randint(0 if from_nought else 1, 9), chance.randint(1, 4)))


def whole_ratio(chance, from_nought):
    """A whole number as a fraction."""
    return (chance.randint(0 if from_nought else 1, 9), 1)


def unit_room(chance, from_nought):
    """A whole size; a room of one."""
    return (chance.randint(0, 9), 1) if from_nought else (1, 1)


def long_ratio(chance, from_nought):
    """A fraction of numbers of sixty figures."""
    return told(Fraction(chance.randint(10 ** 59, SIXTY), chance.randint(10 ** 59, SIXTY)))


def many_rings():
    """Rings of all sizes, the same ones each time."""
    chance = random.Random(20)
    rings = []
    for places in range(2, 13):
        for asks in (0, 1, 2, 3, 5, 8, 13, 20):
            for ratio_of in (small_ratio, whole_ratio, unit_room):
                rings.append(some_ring(chance, places, asks, ratio_of))
    return rings


def some_sending(chance, ring):
    """A sending of the ring, with parts of nought and of the size among the others."""
    shares = [Fraction(0), Fraction(1), Fraction(1, 2), Fraction(1, 3), Fraction(4, 5)]
    return [told(number_of(ask[3]) * chance.choice(shares)) for ask in ring[1]]


def walked(ring, k, way):
    """The ties of a way, by going from place to place."""
    places = len(ring[0])
    place = ring[1][k][1]
    ties = []
    while place != ring[1][k][2]:
        if way == "on":
            ties.append(place)
            place = 0 if place == places - 1 else place + 1
        else:
            place = places - 1 if place == 0 else place - 1
            ties.append(place)
    return ties


def told_anew(test, ask, handed, spoil=None):
    """Ask with copies of what is handed in; check that they stay, and that no told list is shared.

    spoil changes what was told; left out, all lists in it are emptied.
    """
    first = copy.deepcopy(handed)
    answer = ask(*first)
    test.assertEqual(first, handed)
    kept = copy.deepcopy(answer)
    if spoil is None:
        spoil = empty_all
    spoil(answer)
    test.assertEqual(first, handed, "what was told is part of what was handed in")
    test.assertEqual(ask(*first), kept, "what was told before is part of a later answer")
    test.assertEqual(first, handed)
    return kept


def empty_all(thing):
    """Empty each list in a thing."""
    if isinstance(thing, (list, tuple)):
        for one in list(thing):
            empty_all(one)
    if isinstance(thing, list):
        thing.clear()


def lists_in(thing):
    """All lists in a thing, itself too."""
    found = [thing] if isinstance(thing, list) else []
    if isinstance(thing, (list, tuple)):
        for one in thing:
            found.extend(lists_in(one))
    return found


def no_list_shared(test, *things):
    """Check that no two places of the things hold one and the same list."""
    marks = [id(one) for thing in things for one in lists_in(thing)]
    test.assertEqual(len(marks), len(set(marks)))


def load_numbers(ring, sending):
    """Each tie's load as a Fraction, by walking both ways of each ask."""
    loads = [Fraction(0) for tie in ring[0]]
    for k, ask in enumerate(ring[1]):
        for tie in walked(ring, k, "on"):
            loads[tie] += number_of(sending[k])
        for tie in walked(ring, k, "back"):
            loads[tie] += number_of(ask[3]) - number_of(sending[k])
    return loads


def across_number(ring, cut):
    """What goes across a cut, as a Fraction."""
    inside = list(range(cut[0] + 1, cut[1] + 1))
    return sum([number_of(ask[3]) for ask in ring[1] if (ask[1] in inside) != (ask[2] in inside)], Fraction(0))


def shown_number(ring, cut):
    """What a cut shows, as a Fraction."""
    return across_number(ring, cut) / (number_of(ring[0][cut[0]]) + number_of(ring[0][cut[1]]))


def every_cut(ring):
    """All cuts, sorted."""
    return [(g, h) for g in range(len(ring[0])) for h in range(g, len(ring[0]))]


def most_shown(ring):
    """The most that any cut shows, as a Fraction."""
    return max([shown_number(ring, cut) for cut in every_cut(ring)])


def with_ask_more(ring, one, other, size):
    """The ring with one ask more behind the others."""
    return (list(ring[0]), ring[1] + [("zzzzzzzz", one, other, size)])


def long_rings():
    """Rings of numbers of sixty figures, one of them of twelve places and twenty asks."""
    chance = random.Random(60)
    return [some_ring(chance, places, asks, long_ratio) for places, asks in ((2, 2), (3, 4), (5, 6), (12, 20))]


def full_rings(many):
    """Rings of twelve places and twenty asks."""
    chance = random.Random(1220)
    drawers = (small_ratio, whole_ratio, unit_room)
    return [some_ring(chance, 12, 20, drawers[number % 3]) for number in range(many)]


def small_rings(many):
    """Rings of few places and asks, in which all ways can be gone through."""
    chance = random.Random(7)
    drawers = (small_ratio, whole_ratio, unit_room)
    return [
        some_ring(chance, chance.randint(2, 6), chance.randint(0, 5), drawers[number % 3]) for number in range(many)
    ]


def spoilings(thing):
    """A thing's likes with one thing in it, at each place, exchanged for another, left out or put in."""
    if isinstance(thing, (list, tuple)):
        made_of = type(thing)
        yield tuple(thing) if made_of is list else list(thing)
        for number, one in enumerate(thing):
            yield thing[:number] + thing[number + 1:]
            for other in spoilings(one):
                yield thing[:number] + made_of([other]) + thing[number + 1:]
        yield thing + made_of([thing[-1] if thing else None])
    if type(thing) is int:
        yield from (thing + 1, thing - 1, -thing, str(thing), [thing], (thing,))
        if thing in (0, 1):
            yield bool(thing)
    if isinstance(thing, str):
        yield from (thing + " ", thing.upper(), thing[:-1], [thing], (thing,), other_text(thing))
    if has_form_of_ratio(thing):
        yield (2 * thing[0], 2 * thing[1])
        yield (-thing[0], -thing[1])
        yield told(number_of(thing) + Fraction(1, 10 ** 9))
        yield told(number_of(thing) - Fraction(1, 10 ** 9))
    yield from odd_things()


def other_text(text):
    """Another text where one of two stands."""
    return {"on": "back", "back": "on"}.get(text, "on")


def is_way_to_the_kind(thing):
    """Whether a thing is a way, to the kinds and forms."""
    return type(thing) is str and thing in ("on", "back")


def are_ways_to_the_kind(ring, thing):
    """Whether a thing is ways of the ring, to the kinds and forms."""
    if type(thing) is not list or len(thing) != len(ring[1]):
        return False
    return all([is_way_to_the_kind(way) for way in thing])


def is_sending_to_the_kind(ring, thing):
    """Whether a thing is a sending of the ring, to the kinds and forms."""
    if type(thing) is not list or len(thing) != len(ring[1]):
        return False
    if not all([has_form_of_ratio(part) for part in thing]):
        return False
    return all([0 <= number_of(part) <= number_of(ask[3]) for part, ask in zip(thing, ring[1])])


def top_number(ring, sending):
    """The greatest strain, as a Fraction."""
    return max([load / number_of(room) for load, room in zip(load_numbers(ring, sending), ring[0])])


def whole_sending(ring, ways):
    """The sending of ways."""
    return [ask[3] if way == "on" else (0, 1) for ask, way in zip(ring[1], ways)]


def parted_by_hand(ring, sending):
    """The asks that are parted in a sending."""
    return [k for k, ask in enumerate(ring[1]) if 0 < number_of(sending[k]) < number_of(ask[3])]


def cross_by_hand(ring, k, l):
    """Whether two asks cross, by going round the ring and noting whose places one meets."""
    met = []
    for place in range(len(ring[0])):
        for ask in (k, l):
            if place in ring[1][ask][1:3]:
                met.append((place, ask))
    if len(set([place for place, ask in met])) != 4:
        return False
    asks = [ask for place, ask in met]
    return asks in ([k, l, k, l], [l, k, l, k])


def all_cross(ring, some):
    """Whether any two of some asks cross."""
    return all([cross_by_hand(ring, k, l) for k in some for l in some if k < l])


def crossing_ring(chance, places, asks, ratio_of):
    """A ring whose asks all cross, told in any order and either way round."""
    spots = sorted(chance.sample(range(places), 2 * asks))
    pairs = [(spots[k], spots[k + asks]) for k in range(asks)]
    chance.shuffle(pairs)
    drawn = []
    for k, pair in enumerate(pairs):
        one, other = chance.sample(pair, 2)
        drawn.append((name_of(k), one, other, ratio_of(chance, False)))
    return ([ratio_of(chance, False) for tie in range(places)], drawn)


def parted_sending(chance, ring):
    """A sending in which each ask of a size above nought is parted."""
    return [told(number_of(ask[3]) * Fraction(chance.randint(1, 11), 12)) for ask in ring[1]]


def long_sending(chance, ring):
    """A sending with parts of long figures."""
    return [told(number_of(ask[3]) * Fraction(chance.randint(1, SIXTY), SIXTY)) for ask in ring[1]]


def some_string(chance, many, ratio_of):
    """A string of so many rings drawn by chance."""
    string = []
    for number in range(many):
        rooms = [ratio_of(chance, False) for tie in range(chance.randint(2, 12))]
        string.append((rooms, chance.choice(string_places(string)) if string else None))
    return string


def string_places(string):
    """All places of a string, sorted."""
    return [(r, p) for r, one in enumerate(string) for p in range(len(one[0])) if p != 0 or r == 0]


def many_strings():
    """Strings of one to six rings, the same ones each time."""
    chance = random.Random(12)
    drawers = (small_ratio, whole_ratio, unit_room, long_ratio)
    return [some_string(chance, 1 + number % 6, drawers[number % 4]) for number in range(72)]


def chained_string(places, at):
    """A string of six rings of so many places with rooms of one, each hung at place at of the one ahead."""
    return [([(1, 1)] * places, None if r == 0 else (r - 1, at)) for r in range(6)]
