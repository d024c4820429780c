"""[8.1] Wishes, which asks are turned, and the first broken of a wish."""

import itertools
import random
import unittest
from fractions import Fraction

from ringloads.wishes import broken_wish, is_wish, turned_by
from tests.by_hand import all_ways, broken_by_hand, is_wish_by_hand, some_wish, turned_by_hand
from tests.samples import (
    full_rings, load_numbers, long_rings, many_rings, number_of, odd_things, plain_ring, small_rings, spoilings, told,
    told_anew, whole_sending,
)

LITTLE = Fraction(1, 10 ** 9)


class IsWish(unittest.TestCase):
    def check(self, ring, thing):
        self.assertIs(is_wish(ring, thing), is_wish_by_hand(ring, thing), (ring, thing))

    def test_many(self):
        chance = random.Random(81)
        for ring in many_rings():
            wish = some_wish(chance, ring, [Fraction(0), Fraction(1), Fraction(7, 3)])
            self.assertIs(is_wish(ring, wish), True, wish)

    def test_edges(self):
        for places, asks in ((2, 0), (2, 1), (12, 20)):
            ring = plain_ring(places, [(0, 1, 1)] * asks)
            for elder in ([None] * asks, ["on"] * asks, ["back"] * asks, (["on", None, "back"] * 7)[:asks]):
                for most in range(-2, 24):
                    for strict in (True, False):
                        self.assertIs(is_wish(ring, ((0, 1), strict, elder, most)), 0 <= most <= 20)
                self.assertIs(is_wish(ring, ((1, 2), True, elder + [None], 0)), False)
                self.assertIs(is_wish(ring, ((1, 2), True, elder[1:], 0)), asks == 0)
            self.assertIs(is_wish(ring, ((-1, 10 ** 9), True, [None] * asks, 0)), False)

    def test_one_thing_spoilt_at_each_place(self):
        ring = plain_ring(4, [(0, 1, 1), (1, 2, 2), (3, 0, 0)])
        for wish in (((1, 2), True, ["on", None, "back"], 3), ((0, 1), False, [None] * 3, 0), ((9, 1), False, ["on"] * 3, 20)):
            self.assertIs(is_wish(ring, wish), True)
            for thing in spoilings(wish):
                self.check(ring, thing)
        none = plain_ring(2, [])
        for thing in spoilings(((1, 1), True, [], 1)):
            self.check(none, thing)

    def test_things_of_other_kinds(self):
        ring = plain_ring(4, [(0, 1, 1)])
        right = ((1, 2), True, ["on"], 3)
        for thing in odd_things():
            self.assertIs(is_wish(ring, thing), False, repr(thing))
            for number in range(4):
                spoilt = right[:number] + (thing,) + right[number + 1:]
                self.check(ring, spoilt)
            self.check(ring, ((1, 2), True, [thing], 3))
        wrong = [
            list(right), right[:3], right + (None,), ((1, 2), 1, ["on"], 3), ((1, 2), 0, ["on"], 3),
            ((1, 2), None, ["on"], 3), ((1, 2), True, ("on",), 3), ((1, 2), True, "on", 3), ((1, 2), True, [""], 3),
            ((1, 2), True, [False], 3), ((1, 2), True, ["on"], True), ((1, 2), True, ["on"], False),
            ((1, 2), True, ["on"], None), ((1, 2), True, ["on"], "3"), ((2, 4), True, ["on"], 3),
            ([1, 2], True, ["on"], 3), ((-1, 2), True, ["on"], 3), (None, True, ["on"], 3), ((1, 2), True, None, 3),
        ]
        for thing in wrong:
            self.assertIs(is_wish(ring, thing), False, thing)

    def test_what_is_handed_in_stays(self):
        ring = plain_ring(4, [(0, 1, 1)])
        told_anew(self, is_wish, (ring, ((1, 2), True, ["on"], 3)))
        told_anew(self, is_wish, (ring, ((1, 2), True, ["on", None], 3)))


class TurnedBy(unittest.TestCase):
    def test_all(self):
        for many in range(5):
            for elder in itertools.product(["on", "back", None], repeat=many):
                for ways in itertools.product(["on", "back"], repeat=many):
                    answer = turned_by(list(elder), list(ways))
                    self.assertIs(type(answer), list)
                    self.assertEqual(answer, [k for k in range(many) if elder[k] and elder[k] != ways[k]])

    def test_twenty(self):
        self.assertEqual(turned_by(["on"] * 20, ["back"] * 20), list(range(20)))
        self.assertEqual(turned_by([None] * 20, ["back"] * 20), [])
        self.assertEqual(turned_by(["on", "back"] * 10, ["on"] * 20), list(range(1, 20, 2)))

    def test_what_is_handed_in_stays(self):
        told_anew(self, turned_by, (["on", None, "back"], ["back", "on", "on"]))


class BrokenWish(unittest.TestCase):
    def check(self, ring, wish, ways):
        answer = broken_wish(ring, wish, ways)
        self.assertEqual(answer, broken_by_hand(ring, wish, ways), (ring, wish, ways))
        if answer is not None:
            self.assertIs(type(answer), tuple)
            self.assertIs(type(answer[1]), int)
        return answer

    def test_tops_that_are_just_a_strain(self):
        chance = random.Random(811)
        for ring in many_rings() + long_rings() + full_rings(6):
            ways = [chance.choice(["on", "back"]) for ask in ring[1]]
            strains = [
                load / number_of(room) for load, room in zip(load_numbers(ring, whole_sending(ring, ways)), ring[0])
            ]
            for strain in strains:
                for top in (strain, strain + LITTLE, max(strain - LITTLE, 0)):
                    for strict in (True, False):
                        self.check(ring, (told(top), strict, [None] * len(ways), 0), ways)
            self.assertIsNone(self.check(ring, (told(max(strains)), False, [None] * len(ways), 0), ways))
            first = ("load", strains.index(max(strains)))
            self.assertEqual(self.check(ring, (told(max(strains)), True, [None] * len(ways), 20), ways), first)
            self.assertIsNone(self.check(ring, (told(max(strains) + LITTLE), True, [None] * len(ways), 0), ways))

    def test_many_wishes(self):
        chance = random.Random(812)
        for ring in small_rings(80):
            for step in range(6):
                wish = some_wish(chance, ring, [Fraction(0), Fraction(4), Fraction(9), Fraction(30)])
                for ways in all_ways(ring):
                    self.check(ring, wish, ways)

    def test_just_as_many_turned_and_one_more(self):
        ring = plain_ring(5, [(0, 3, 1)] * 20)
        for many in range(21):
            ways = ["on"] * many + ["back"] * (20 - many)
            for most in range(21):
                asked = ("turned", many) if many > most else None
                self.assertEqual(self.check(ring, ((20, 1), False, ["back"] * 20, most), ways), asked)
            self.assertIsNone(self.check(ring, ((20, 1), False, [None] * 20, 0), ways))

    def test_loads_come_ahead_of_turned(self):
        ring = plain_ring(4, [(0, 2, 1), (1, 2, 1)])
        self.assertEqual(broken_wish(ring, ((1, 1), False, ["on", "on"], 0), ["on", "on"]), ("load", 1))
        self.assertEqual(broken_wish(ring, ((1, 1), False, ["back", "back"], 0), ["on", "on"]), ("load", 1))
        self.assertEqual(broken_wish(ring, ((2, 1), False, ["back", "back"], 0), ["on", "on"]), ("turned", 2))
        self.assertEqual(broken_wish(ring, ((2, 1), False, ["back", None], 0), ["on", "on"]), ("turned", 1))
        self.assertIsNone(broken_wish(ring, ((2, 1), False, ["back", None], 1), ["on", "on"]))

    def test_no_asks(self):
        for places in (2, 12):
            ring = plain_ring(places, [])
            self.assertIsNone(broken_wish(ring, ((0, 1), False, [], 0), []))
            self.assertEqual(broken_wish(ring, ((0, 1), True, [], 0), []), ("load", 0))
            self.assertIsNone(broken_wish(ring, ((1, 9), True, [], 20), []))

    def test_turned_by_hand_is_the_same(self):
        self.assertEqual(turned_by(["on", None], ["back", "on"]), turned_by_hand(["on", None], ["back", "on"]))

    def test_what_is_handed_in_stays(self):
        ring = plain_ring(4, [(0, 2, 1), (1, 2, 1)])
        for top in ((1, 1), (2, 1)):
            for most in (0, 2):
                told_anew(self, broken_wish, (ring, (top, False, ["back", "back"], most), ["on", "on"]))
