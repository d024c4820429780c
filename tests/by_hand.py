"""Wishes and trees looked at by the points' own words, with nothing of the program."""

import itertools
from fractions import Fraction

from tests.samples import has_form_of_ratio, load_numbers, number_of, told, top_number, walked, whole_sending

MOST_WALKED = 300


def all_ways(ring):
    """All ways of a ring."""
    return [list(ways) for ways in itertools.product(["on", "back"], repeat=len(ring[1]))]


def best_number(ring):
    """The least top of all ways, as a Fraction."""
    return min([top_number(ring, whole_sending(ring, ways)) for ways in all_ways(ring)])


def is_wish_by_hand(ring, thing):
    """Whether a thing is a wish, to the kinds and forms."""
    if type(thing) is not tuple or len(thing) != 4:
        return False
    top, strict, elder, most = thing
    if not has_form_of_ratio(top) or top[0] < 0 or type(strict) is not bool:
        return False
    if type(elder) is not list or len(elder) != len(ring[1]):
        return False
    if not all([way is None or type(way) is str and way in ("on", "back") for way in elder]):
        return False
    return type(most) is int and most in range(21)


def turned_by_hand(elder, ways):
    """The asks that are turned; ways may be None where an ask isn't fixed."""
    return [k for k in range(len(ways)) if None not in (elder[k], ways[k]) and elder[k] != ways[k]]


def broken_by_hand(ring, wish, ways):
    """The first broken of a wish."""
    top = number_of(wish[0])
    for tie, load in enumerate(load_numbers(ring, whole_sending(ring, ways))):
        strain = load / number_of(ring[0][tie])
        if strain > top or wish[1] and strain == top:
            return ("load", tie)
    many = len(turned_by_hand(wish[2], ways))
    return ("turned", many) if many > wish[3] else None


def is_number(thing, many):
    return type(thing) is int and thing in range(many)


def cut_stands(ring, wish, fixed, g, h):
    """Whether a cut shows enough under the fixed asks."""
    load = Fraction(0)
    inside = range(g + 1, h + 1)
    for k, ask in enumerate(ring[1]):
        if fixed[k] is not None:
            ties = walked(ring, k, fixed[k])
            load += number_of(ask[3]) * ((g in ties) + (h in ties))
        elif (ask[1] in inside) != (ask[2] in inside):
            load += number_of(ask[3])
    bound = number_of(wish[0]) * (number_of(ring[0][g]) + number_of(ring[0][h]))
    return load >= bound if wish[1] else load > bound


def stands(ring, wish, fixed, thing):
    """Whether a thing can stand under the fixed asks, its trees aside."""
    if type(thing) is not tuple or not thing or type(thing[0]) is not str:
        return False
    if thing[0] == "turned" and len(thing) == 1:
        return len(turned_by_hand(wish[2], fixed)) > wish[3]
    if thing[0] == "cut" and len(thing) == 3:
        if not is_number(thing[1], len(ring[0])) or not is_number(thing[2], len(ring[0])) or thing[1] > thing[2]:
            return False
        return cut_stands(ring, wish, fixed, thing[1], thing[2])
    return thing[0] == "split" and len(thing) == 4 and is_number(thing[1], len(ring[1])) and fixed[thing[1]] is None


def first_wrong(ring, wish, thing):
    """The way to the first tuple, or thing, that can't stand; None of a tree."""
    counter = itertools.count(1)

    def walk(here, fixed, way):
        if next(counter) > MOST_WALKED or not stands(ring, wish, fixed, here):
            return way
        if here[0] == "split":
            for step, below in (("on", here[2]), ("back", here[3])):
                wrong = walk(below, fixed[:here[1]] + [step] + fixed[here[1] + 1:], way + [step])
                if wrong is not None:
                    return wrong
        return None

    return walk(thing, [None for ask in ring[1]], [])


def some_wish(chance, ring, tops):
    """A wish drawn by chance, its top one of some, or a little more or less."""
    top = chance.choice(tops) + chance.choice([0, 0, 0, Fraction(1, 10 ** 9), Fraction(-1, 10 ** 9)])
    kinds = chance.choice([[None], ["on", "back"], [None, "on", "back"]])
    elder = [chance.choice(kinds) for ask in ring[1]]
    most = chance.choice([0, 0, 1, 2, 3, 20])
    return (told(max(top, 0)), chance.choice([True, False]), elder, most)


def some_tree(chance, ring, wish, fixed=None, rightness=1.0):
    """A tree drawn by chance: leaves that stand where there are some, now and then one that doesn't."""
    if fixed is None:
        fixed = [None for ask in ring[1]]
    ties = range(len(ring[0]))
    leaves = [("cut", g, h) for g in ties for h in ties if g <= h] + [("turned",)]
    right = [leaf for leaf in leaves if stands(ring, wish, fixed, leaf)]
    free = [k for k, way in enumerate(fixed) if way is None]
    if chance.random() > rightness or not free:
        return chance.choice(leaves)
    if right and chance.random() < 0.7:
        return chance.choice(right)
    k = chance.choice(free)
    below = [
        some_tree(chance, ring, wish, fixed[:k] + [way] + fixed[k + 1:], rightness) for way in ("on", "back")
    ]
    return ("split", k, below[0], below[1])


def count_by_hand(tree):
    """How many cuts, turneds and splits a tree has."""
    if tree[0] == "split":
        pairs = zip(count_by_hand(tree[2]), count_by_hand(tree[3]), (0, 0, 1))
        return tuple([sum(three) for three in pairs])
    return (1, 0, 0) if tree[0] == "cut" else (0, 1, 0)
