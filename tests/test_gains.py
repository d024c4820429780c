"""[7.3] The gains of the ties."""

import random
import unittest

from ringloads.gains import gains_of
from tests.samples import (
    full_rings, has_form_of_ratio, load_numbers, long_rings, many_rings, plain_ring, some_sending, told, told_anew,
    whole_sending,
)


class Gains(unittest.TestCase):
    def test_many(self):
        chance = random.Random(73)
        for ring in many_rings() + long_rings() + full_rings(10):
            sending = some_sending(chance, ring)
            ways = [chance.choice(["on", "back"]) for ask in ring[1]]
            answer = gains_of(ring, sending, ways)
            self.assertIs(type(answer), list)
            self.assertTrue(all([has_form_of_ratio(gain) for gain in answer]))
            pairs = zip(load_numbers(ring, whole_sending(ring, ways)), load_numbers(ring, sending))
            self.assertEqual(answer, [told(whole - parted) for whole, parted in pairs])

    def test_examples(self):
        ring = plain_ring(4, [(0, 2, 2), (3, 1, 4)])
        self.assertEqual(gains_of(ring, [(1, 1), (1, 1)], ["on", "on"]), [(4, 1), (-2, 1), (-4, 1), (2, 1)])
        self.assertEqual(gains_of(ring, [(1, 2), (1, 1)], ["back", "on"]), [(5, 2), (-7, 2), (-5, 2), (7, 2)])
        self.assertEqual(gains_of(ring, [(2, 1), (0, 1)], ["on", "back"]), [(0, 1)] * 4)

    def test_no_asks(self):
        for places in (2, 12):
            self.assertEqual(gains_of(plain_ring(places, []), [], []), [(0, 1)] * places)

    def test_rooms_do_not_count(self):
        ring = ([(1, 7), (9, 1)], [("a", 1, 0, (3, 1))])
        self.assertEqual(gains_of(ring, [(1, 1)], ["on"]), [(-2, 1), (2, 1)])

    def test_what_is_handed_in_stays(self):
        chance = random.Random(74)
        for ring in many_rings()[::17]:
            told_anew(self, gains_of, (ring, some_sending(chance, ring), ["back" for ask in ring[1]]))
