"""[3.1], [3.3], [3.4] Broken wishes, ways, mixed sendings."""

import itertools
import random
import unittest
from fractions import Fraction

from ringloads.sendings import are_ways, first_broken, mixed, sent_by, ways_of
from tests.samples import (
    has_form_of_ratio, load_numbers, long_rings, many_rings, number_of, odd_things, plain_ring, small_rings,
    some_sending, told, told_anew,
)


def broken_by_hand(ring, some, top):
    for k, ask in enumerate(ring[1]):
        if not 0 <= number_of(some[k]) <= number_of(ask[3]):
            return ("part", k)
    if top is not None:
        for tie, load in enumerate(load_numbers(ring, some)):
            if load > number_of(top) * number_of(ring[0][tie]):
                return ("load", tie)
    return None


class FirstBroken(unittest.TestCase):
    def check(self, ring, some, top):
        answer = first_broken(ring, some, top)
        self.assertEqual(answer, broken_by_hand(ring, some, top), (ring, some, top))
        if answer is not None:
            self.assertIs(type(answer), tuple)
        return answer

    def test_sendings_for_many_tops(self):
        chance = random.Random(31)
        for ring in many_rings() + long_rings():
            sending = some_sending(chance, ring)
            self.assertIsNone(self.check(ring, sending, None))
            strains = [load / number_of(room) for load, room in zip(load_numbers(ring, sending), ring[0])]
            for strain in strains:
                for change in (Fraction(0), Fraction(1, 10 ** 9), Fraction(-1, 10 ** 9)):
                    self.check(ring, sending, told(strain + change))
            self.assertIsNone(self.check(ring, sending, told(max(strains))))
            self.assertEqual(self.check(ring, sending, (-1, 1)), ("load", 0))

    def test_parts_that_are_too_little_or_too_much(self):
        chance = random.Random(35)
        for ring in many_rings()[::3]:
            for k, ask in enumerate(ring[1]):
                for wrong in ((-1, 1), (-1, 10 ** 60), told(number_of(ask[3]) + Fraction(1, 10 ** 60))):
                    some = some_sending(chance, ring)
                    some[k] = wrong
                    for top in (None, (0, 1), (-5, 1), (10 ** 9, 1)):
                        self.assertEqual(self.check(ring, some, top), ("part", k))
                    some[-1] = (-1, 1)
                    self.assertEqual(self.check(ring, some, None), ("part", k))

    def test_parts_of_nought_and_of_the_size_break_nothing(self):
        for ring in many_rings():
            self.assertIsNone(self.check(ring, [(0, 1) for ask in ring[1]], None))
            self.assertIsNone(self.check(ring, [ask[3] for ask in ring[1]], None))

    def test_parts_come_ahead_of_loads(self):
        ring = plain_ring(4, [(0, 1, 5), (2, 3, 5), (1, 2, 0)])
        self.assertEqual(first_broken(ring, [(5, 1), (5, 1), (1, 1)], (1, 1)), ("part", 2))
        self.assertEqual(first_broken(ring, [(5, 1), (6, 1), (-1, 1)], (1, 1)), ("part", 1))
        self.assertEqual(first_broken(ring, [(5, 1), (6, 1), (-1, 1)], None), ("part", 1))
        self.assertEqual(first_broken(ring, [(5, 1), (5, 1), (0, 1)], (1, 1)), ("load", 0))
        self.assertEqual(first_broken(ring, [(0, 1), (5, 1), (0, 1)], (5, 1)), ("load", 2))
        self.assertIsNone(first_broken(ring, [(5, 1), (5, 1), (0, 1)], (5, 1)))

    def test_a_top_is_weighed_against_the_room(self):
        ring = ([(1, 2), (3, 1)], [("a", 0, 1, (4, 1))])
        self.assertIsNone(first_broken(ring, [(1, 1)], (2, 1)))
        self.assertEqual(first_broken(ring, [(1, 1)], (199, 100)), ("load", 0))
        self.assertIsNone(first_broken(ring, [(0, 1)], (4, 3)))
        self.assertEqual(first_broken(ring, [(0, 1)], (133, 100)), ("load", 1))

    def test_no_asks(self):
        for places in (2, 12):
            ring = plain_ring(places, [])
            self.assertIsNone(first_broken(ring, [], None))
            self.assertIsNone(first_broken(ring, [], (0, 1)))
            self.assertEqual(first_broken(ring, [], (-1, 9)), ("load", 0))

    def test_what_is_handed_in_stays(self):
        ring = plain_ring(4, [(0, 1, 5), (2, 3, 5)])
        for some in ([(5, 1), (5, 1)], [(5, 1), (-1, 1)]):
            for top in (None, (1, 1), (9, 1)):
                told_anew(self, first_broken, (ring, some, top))


class WholeSendings(unittest.TestCase):
    def test_sent_by_all_ways(self):
        for ring in small_rings(60):
            for drawn in itertools.product(["on", "back"], repeat=len(ring[1])):
                ways = list(drawn)
                self.assertIs(are_ways(ring, ways), True)
                sending = sent_by(ring, ways)
                self.assertIs(type(sending), list)
                asked = [ask[3] if way == "on" else (0, 1) for ask, way in zip(ring[1], ways)]
                self.assertEqual(sending, asked)
                read = ways_of(ring, sending)
                self.assertIs(type(read), list)
                nought = [ask[3] == (0, 1) for ask in ring[1]]
                self.assertEqual(read, ["on" if none else way for none, way in zip(nought, ways)])

    def test_a_size_of_nought_goes_on(self):
        ring = plain_ring(3, [(0, 1, 0), (1, 2, 4)])
        self.assertEqual(ways_of(ring, [(0, 1), (0, 1)]), ["on", "back"])
        self.assertEqual(ways_of(ring, [(0, 1), (4, 1)]), ["on", "on"])
        self.assertEqual(sent_by(ring, ["back", "back"]), [(0, 1), (0, 1)])

    def test_parted_ones_have_no_ways(self):
        ring = plain_ring(3, [(0, 1, 3), (1, 2, 4), (2, 0, 0)])
        for k, part in ((0, (1, 1)), (0, (1, 10 ** 60)), (1, (2, 1)), (1, (39, 10))):
            sending = [(3, 1), (0, 1), (0, 1)]
            sending[k] = part
            self.assertIsNone(ways_of(ring, sending))
        self.assertIsNone(ways_of(ring, [(1, 1), (1, 1), (0, 1)]))
        self.assertEqual(ways_of(ring, [(3, 1), (4, 1), (0, 1)]), ["on", "on", "on"])

    def test_no_asks_and_twenty(self):
        self.assertEqual(sent_by(plain_ring(2, []), []), [])
        self.assertEqual(ways_of(plain_ring(2, []), []), [])
        ring = plain_ring(12, [(k % 12, (k + 5) % 12, k + 1) for k in range(20)])
        ways = ["on", "back"] * 10
        self.assertEqual(ways_of(ring, sent_by(ring, ways)), ways)

    def test_what_is_handed_in_stays(self):
        ring = plain_ring(3, [(0, 1, 3), (1, 2, 4)])
        told_anew(self, sent_by, (ring, ["on", "back"]))
        told_anew(self, ways_of, (ring, [(3, 1), (0, 1)]))
        told_anew(self, ways_of, (ring, [(3, 1), (1, 1)]))
        told_anew(self, are_ways, (ring, ["on", "back"]))


class AreWays(unittest.TestCase):
    def test_lengths(self):
        for many in (0, 1, 2, 20):
            ring = plain_ring(5, [(0, 3, 1)] * many)
            for other in (0, 1, 2, 3, 19, 20, 21):
                self.assertIs(are_ways(ring, ["on"] * other), many == other)
                self.assertIs(are_ways(ring, ["back"] * other), many == other)

    def test_other_kinds(self):
        none = plain_ring(3, [])
        one = plain_ring(3, [(0, 1, 1)])
        two = plain_ring(3, [(0, 1, 1), (1, 2, 1)])
        for thing in odd_things():
            self.assertIs(are_ways(none, thing), type(thing) is list and not thing, repr(thing))
            self.assertIs(are_ways(one, thing), type(thing) is list and thing == ["on"], repr(thing))
            self.assertIs(are_ways(two, thing), False, repr(thing))
            is_way = type(thing) is str and thing in ("on", "back")
            self.assertIs(are_ways(one, [thing]), is_way, repr(thing))
            self.assertIs(are_ways(two, ["on", thing]), is_way, repr(thing))
            self.assertIs(are_ways(two, [thing, "back"]), is_way, repr(thing))
        for thing in (("on",), {"on": True}, "on", {"on"}, ["on", None], [["on"]]):
            self.assertIs(are_ways(one, thing), False, repr(thing))
        self.assertIs(are_ways(two, ("on", "back")), False)
        self.assertIs(are_ways(two, {0: "on", 1: "back"}), False)
        self.assertIs(are_ways(none, ()), False)

    def test_other_texts(self):
        ring = plain_ring(3, [(0, 1, 1)])
        for text in ("", "o", "n", "b", "On", "ON", "on ", " on", "on\n", "onback", "bac", "Back", "ack", "forth"):
            self.assertIs(are_ways(ring, [text]), False, repr(text))


class Mixed(unittest.TestCase):
    def test_many(self):
        chance = random.Random(340)
        shares = [(0, 1), (1, 1), (1, 2), (1, 3), (5, 7), (1, 10 ** 60), (10 ** 60 - 1, 10 ** 60)]
        for ring in many_rings()[::2] + long_rings()[:3]:
            one = some_sending(chance, ring)
            other = some_sending(chance, ring)
            share = chance.choice(shares)
            answer = mixed(one, other, share)
            self.assertIs(type(answer), list)
            self.assertTrue(all([has_form_of_ratio(part) for part in answer]))
            by = number_of(share)
            asked = [number_of(a) + by * (number_of(b) - number_of(a)) for a, b in zip(one, other)]
            self.assertEqual(answer, [told(part) for part in asked])
            loads = zip(load_numbers(ring, one), load_numbers(ring, other))
            self.assertEqual(load_numbers(ring, answer), [a + by * (b - a) for a, b in loads])
            self.assertIsNone(first_broken(ring, answer, None))

    def test_shares_of_nought_and_one(self):
        one = [(1, 2), (0, 1), (7, 1)]
        other = [(1, 3), (4, 1), (0, 1)]
        self.assertEqual(mixed(one, other, (0, 1)), one)
        self.assertEqual(mixed(one, other, (1, 1)), other)
        self.assertEqual(mixed(one, other, (1, 4)), [(11, 24), (1, 1), (21, 4)])
        self.assertEqual(mixed([], [], (1, 2)), [])

    def test_what_is_handed_in_stays(self):
        for share in ((0, 1), (1, 1), (1, 2)):
            told_anew(self, mixed, ([(1, 2), (0, 1)], [(1, 3), (4, 1)], share))
            one = [(1, 2), (0, 1)]
            mixed(one, one, share).append(None)
            self.assertEqual(one, [(1, 2), (0, 1)])
