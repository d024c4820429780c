"""[3.2] Loads, strains, the top."""

import random
import unittest

from ringloads.loads import loads_of, strains_of, top_of
from tests.samples import (
    has_form_of_ratio, load_numbers, long_rings, many_rings, number_of, plain_ring, some_sending, told, told_anew,
)


class Loads(unittest.TestCase):
    def check(self, ring, sending):
        asked = load_numbers(ring, sending)
        loads = loads_of(ring, sending)
        self.assertIs(type(loads), list)
        self.assertTrue(all([has_form_of_ratio(load) for load in loads]))
        self.assertEqual(loads, [told(load) for load in asked])
        strains = strains_of(ring, sending)
        self.assertIs(type(strains), list)
        numbers = [load / number_of(room) for load, room in zip(asked, ring[0])]
        self.assertEqual(strains, [told(number) for number in numbers])
        top = top_of(ring, sending)
        self.assertIs(type(top), tuple)
        self.assertEqual(top, (told(max(numbers)), numbers.index(max(numbers))))
        self.assertIs(type(top[1]), int)

    def test_many_sendings(self):
        chance = random.Random(32)
        for ring in many_rings():
            for step in range(2):
                self.check(ring, some_sending(chance, ring))

    def test_sixty_figures(self):
        chance = random.Random(33)
        for ring in long_rings():
            self.check(ring, some_sending(chance, ring))

    def test_parts_of_nought_and_of_the_size(self):
        for ring in many_rings():
            self.check(ring, [(0, 1) for ask in ring[1]])
            self.check(ring, [ask[3] for ask in ring[1]])

    def test_an_example(self):
        ring = ([(1, 1), (2, 1), (1, 2), (3, 1)], [("a", 1, 3, (5, 1)), ("b", 3, 2, (1, 2)), ("c", 0, 1, (0, 1))])
        sending = [(3, 1), (1, 3), (0, 1)]
        self.assertEqual(loads_of(ring, sending), [(7, 3), (10, 3), (19, 6), (7, 3)])
        self.assertEqual(strains_of(ring, sending), [(7, 3), (5, 3), (19, 3), (7, 9)])
        self.assertEqual(top_of(ring, sending), ((19, 3), 2))

    def test_no_asks(self):
        for places in range(2, 13):
            ring = plain_ring(places, [])
            self.assertEqual(loads_of(ring, []), [(0, 1)] * places)
            self.assertEqual(strains_of(ring, []), [(0, 1)] * places)
            self.assertEqual(top_of(ring, []), ((0, 1), 0))

    def test_sizes_of_nought(self):
        ring = plain_ring(4, [(0, 2, 0), (3, 1, 0)])
        self.assertEqual(top_of(ring, [(0, 1), (0, 1)]), ((0, 1), 0))

    def test_the_first_of_several_alike_ties(self):
        ring = plain_ring(6, [(1, 4, 2)])
        self.assertEqual(top_of(ring, [(2, 1)]), ((2, 1), 1))
        self.assertEqual(top_of(ring, [(0, 1)]), ((2, 1), 0))
        self.assertEqual(top_of(ring, [(1, 1)]), ((1, 1), 0))
        uneven = ([(1, 1), (2, 1), (1, 2), (1, 2)], [("a", 0, 1, (1, 1)), ("b", 2, 1, (1, 1)), ("c", 2, 0, (1, 2))])
        self.assertEqual(strains_of(uneven, [(1, 1), (0, 1), (1, 2)]), [(1, 1), (1, 2), (1, 1), (1, 1)])
        self.assertEqual(top_of(uneven, [(1, 1), (0, 1), (1, 2)]), ((1, 1), 0))

    def test_the_top_is_a_strain_and_not_a_load(self):
        ring = ([(9, 1), (1, 9)], [("a", 0, 1, (10, 1))])
        self.assertEqual(top_of(ring, [(9, 1)]), ((9, 1), 1))

    def test_what_is_handed_in_stays(self):
        chance = random.Random(34)
        for ring in many_rings()[::11]:
            sending = some_sending(chance, ring)
            for ask in (loads_of, strains_of, top_of):
                told_anew(self, ask, (ring, sending))
