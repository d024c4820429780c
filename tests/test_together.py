"""[11.4], [11.5], [0.4] (f) Asks between the same two places put together."""

import random
import unittest
from fractions import Fraction

from ringloads.best import best_ways
from ringloads.leasts import least_top
from ringloads.rings import look_at_ring
from ringloads.together import put_together, sent_together
from tests.samples import (
    full_rings, is_sending_to_the_kind, load_numbers, long_rings, many_rings, no_list_shared, number_of, plain_ring,
    small_ratio, small_rings, some_ring, some_sending, told, told_anew,
)

RING = (
    [(1, 1), (2, 1), (1, 2)],
    [("d", 0, 1, (1, 1)), ("b", 2, 0, (3, 4)), ("c", 1, 0, (5, 2)), ("a", 0, 1, (0, 1)), ("e", 0, 2, (1, 4))],
)


def crowded_rings():
    """Rings of few places and many asks, and others."""
    chance = random.Random(1121)
    crowded = [some_ring(chance, 2 + number % 4, number % 21, small_ratio) for number in range(60)]
    return crowded + many_rings()[::4] + full_rings(2) + long_rings()


def together_by_hand(ring, sending):
    """The asks put together, and the parts."""
    asks = {}
    parts = {}
    for (name, one, other, size), part in zip(ring[1], sending):
        pair = frozenset([one, other])
        first = asks.setdefault(pair, [name, one, other, Fraction(0)])
        first[3] += number_of(size)
        goes_on = number_of(part) if one == first[1] else number_of(size) - number_of(part)
        parts[pair] = parts.get(pair, Fraction(0)) + goes_on
    joined = [(name, one, other, told(size)) for name, one, other, size in asks.values()]
    return (ring[0], joined), [told(part) for part in parts.values()]


class Together(unittest.TestCase):
    def check(self, ring, sending):
        made = put_together(ring)
        taken = sent_together(ring, sending)
        self.assertEqual((made, taken), together_by_hand(ring, sending))
        self.assertIs(type(made), tuple)
        self.assertIsNone(look_at_ring(made))
        no_list_shared(self, ring, made, sending, taken)
        self.assertTrue(is_sending_to_the_kind(made, taken))
        self.assertEqual(load_numbers(made, taken), load_numbers(ring, sending))
        return made

    def test_many_rings(self):
        chance = random.Random(1122)
        for ring in crowded_rings():
            made = self.check(ring, some_sending(chance, ring))
            self.assertEqual(put_together(made), made)

    def test_examples(self):
        asked = (RING[0], [("d", 0, 1, (7, 2)), ("b", 2, 0, (1, 1))])
        self.assertEqual(put_together(RING), asked)
        sending = [(1, 2), (1, 4), (2, 1), (0, 1), (0, 1)]
        # Of the third ask a half goes back, of the fifth all of it: so much goes as the first ones go on.
        self.assertEqual(sent_together(RING, sending), [(1, 1), (1, 2)])

    def test_no_asks_and_one(self):
        for places in (2, 12):
            self.assertEqual(self.check(plain_ring(places, []), []), plain_ring(places, []))
            alone = plain_ring(places, [(1, 0, 3)])
            self.assertEqual(self.check(alone, [(1, 1)]), alone)

    def test_asks_told_either_way_round(self):
        for size in (0, 4):
            ring = plain_ring(4, [(3, 1, size), (1, 3, size), (3, 1, size)])
            self.assertEqual(put_together(ring)[1], [("a", 3, 1, (3 * size, 1))])
            self.assertEqual(sent_together(ring, [(0, 1), (size, 1), (0, 1)]), [(0, 1)])
            self.assertEqual(sent_together(ring, [(0, 1), (0, 1), (0, 1)]), [(size, 1)])
            self.assertEqual(sent_together(ring, [(size, 1), (0, 1), (size, 1)]), [(3 * size, 1)])

    def test_twenty_asks(self):
        ring = plain_ring(2, [(k % 2, 1 - k % 2, k) for k in range(20)])
        self.assertEqual(put_together(ring)[1], [("a", 0, 1, (190, 1))])
        whole = [(k if k % 2 == 0 else 0, 1) for k in range(20)]
        self.assertEqual(sent_together(ring, whole), [(190, 1)])
        unlike = plain_ring(12, [(k % 12, (k + 1 + k // 12) % 12, 1) for k in range(20)])
        self.assertEqual(put_together(unlike), unlike)

    def test_the_order_of_the_first_ones(self):
        ring = plain_ring(5, [(3, 4, 1), (0, 1, 1), (4, 3, 1), (2, 1, 1), (1, 0, 1), (1, 2, 1)])
        self.assertEqual([ask[:3] for ask in put_together(ring)[1]], [("a", 3, 4), ("b", 0, 1), ("d", 2, 1)])

    def test_tops(self):
        for ring in crowded_rings() + small_rings(90):
            made = put_together(ring)
            self.assertEqual(least_top(made)[0], least_top(ring)[0])
            if len(ring[1]) <= 7:
                self.assertGreaterEqual(number_of(best_ways(made)[0]), number_of(best_ways(ring)[0]))

    def test_what_is_handed_in_stays(self):
        told_anew(self, put_together, (RING,))
        told_anew(self, sent_together, (RING, [(1, 2), (1, 4), (2, 1), (0, 1), (0, 1)]))
