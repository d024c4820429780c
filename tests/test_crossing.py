"""[6.1], [6.4] Asks that cross or stand side by side, and asks that are parted."""

import itertools
import random
import unittest
from fractions import Fraction

from ringloads.crossing import do_cross, parted_in
from tests.samples import (
    cross_by_hand, crossing_ring, full_rings, long_rings, many_rings, number_of, parted_by_hand, plain_ring,
    small_ratio, some_sending, told, told_anew, walked,
)


def have_ways_apart(ring):
    """Whether the first two asks have ways that share no tie."""
    for way, other in itertools.product(["on", "back"], repeat=2):
        if not set(walked(ring, 0, way)) & set(walked(ring, 1, other)):
            return True
    return False


class Crossing(unittest.TestCase):
    def test_all_places(self):
        for places in range(2, 8):
            for first in itertools.permutations(range(places), 2):
                for second in itertools.permutations(range(places), 2):
                    ring = plain_ring(places, [first + (1,), second + (1,)])
                    asked = cross_by_hand(ring, 0, 1)
                    self.assertIs(do_cross(ring, 0, 1), asked, (first, second))
                    self.assertIs(do_cross(ring, 1, 0), asked, (first, second))
                    self.assertEqual(have_ways_apart(ring), not asked)

    def test_examples(self):
        ring = plain_ring(8, [(0, 4, 1), (2, 6, 1), (6, 2, 0), (4, 0, 9), (1, 3, 1), (4, 7, 1), (3, 5, 1)])
        crossing = [(0, 1), (0, 2), (1, 3), (2, 3), (0, 6), (3, 6), (1, 4), (2, 4), (1, 5), (2, 5), (5, 6)]
        for k, l in itertools.permutations(range(7), 2):
            self.assertIs(do_cross(ring, k, l), (min(k, l), max(k, l)) in crossing, (k, l))

    def test_few_places_cross_never(self):
        for places in (2, 3):
            pairs = list(itertools.permutations(range(places), 2))
            for first, second in itertools.product(pairs, repeat=2):
                self.assertIs(do_cross(plain_ring(places, [first + (1,), second + (1,)]), 0, 1), False)

    def test_rings_of_twelve_places_and_twenty_asks(self):
        for ring in full_rings(10):
            for k, l in itertools.permutations(range(20), 2):
                self.assertIs(do_cross(ring, k, l), cross_by_hand(ring, k, l))

    def test_all_that_cross(self):
        chance = random.Random(61)
        ring = crossing_ring(chance, 12, 6, small_ratio)
        for k, l in itertools.permutations(range(6), 2):
            self.assertIs(do_cross(ring, k, l), True)

    def test_what_is_handed_in_stays(self):
        told_anew(self, do_cross, (plain_ring(4, [(0, 2, 1), (1, 3, 1)]), 0, 1))


class Parted(unittest.TestCase):
    def test_many(self):
        chance = random.Random(64)
        for ring in many_rings() + long_rings():
            for step in range(3):
                sending = some_sending(chance, ring)
                answer = parted_in(ring, sending)
                self.assertIs(type(answer), list)
                self.assertEqual(answer, parted_by_hand(ring, sending))

    def test_edges(self):
        ring = plain_ring(5, [(0, 3, 2), (1, 2, 0), (4, 0, 1), (3, 0, 5)])
        self.assertEqual(parted_in(ring, [(0, 1), (0, 1), (0, 1), (0, 1)]), [])
        self.assertEqual(parted_in(ring, [(2, 1), (0, 1), (1, 1), (5, 1)]), [])
        self.assertEqual(parted_in(ring, [(1, 1), (0, 1), (1, 2), (1, 1)]), [0, 2, 3])
        tiny = Fraction(1, 10 ** 60)
        for part in (tiny, 1 - tiny):
            self.assertEqual(parted_in(ring, [(0, 1), (0, 1), told(part), (5, 1)]), [2])
        self.assertEqual(parted_in(plain_ring(2, []), []), [])

    def test_what_is_handed_in_stays(self):
        ring = plain_ring(5, [(0, 3, 2), (1, 2, 0), (4, 0, 1)])
        self.assertEqual(number_of(ring[1][0][3]), 2)
        told_anew(self, parted_in, (ring, [(1, 1), (0, 1), (1, 2)]))
