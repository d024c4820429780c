"""[4.3], [4.4] Tables, and the extra of four ties."""

import itertools
import random
import unittest
from fractions import Fraction

from ringloads.cuts import across
from ringloads.tables import extra_of, table_of
from tests.samples import (
    across_number, has_form_of_ratio, long_rings, many_rings, no_list_shared, number_of, plain_ring, told, told_anew,
)


def extra_by_hand(ring, g, h, p, q):
    extra = Fraction(0)
    for name, one, other, size in ring[1]:
        for start, end in ((one, other), (other, one)):
            if start in range(h + 1, p + 1) and end not in range(g + 1, q + 1):
                extra += number_of(size)
    return extra


class Tables(unittest.TestCase):
    def test_many_rings(self):
        for ring in many_rings()[::2] + long_rings():
            table = table_of(ring)
            places = len(ring[0])
            self.assertIs(type(table), list)
            self.assertEqual([type(row) for row in table], [list] * places)
            asked = [
                [told(across_number(ring, (min(g, h), max(g, h)))) for h in range(places)] for g in range(places)
            ]
            self.assertEqual(table, asked)

    def test_an_example(self):
        ring = ([(1, 1), (2, 1), (1, 2)], [("a", 0, 1, (3, 1)), ("b", 2, 1, (1, 2)), ("c", 0, 2, (1, 3))])
        asked = [[(0, 1), (7, 2), (10, 3)], [(7, 2), (0, 1), (5, 6)], [(10, 3), (5, 6), (0, 1)]]
        self.assertEqual(table_of(ring), asked)

    def test_no_asks(self):
        for places in (2, 12):
            self.assertEqual(table_of(plain_ring(places, [])), [[(0, 1)] * places] * places)

    def test_lists_are_the_askers_own(self):
        for ring in (plain_ring(3, []), plain_ring(5, [(0, 3, 1), (1, 2, 4)])):
            no_list_shared(self, table_of(ring), table_of(ring))
            told_anew(self, table_of, (ring,))


class Extra(unittest.TestCase):
    def check(self, ring, g, h, p, q):
        extra = extra_of(ring, g, h, p, q)
        self.assertTrue(has_form_of_ratio(extra))
        self.assertEqual(extra, told(extra_by_hand(ring, g, h, p, q)), (ring, g, h, p, q))
        crossed = number_of(across(ring, (g, p))) + number_of(across(ring, (h, q)))
        apart = number_of(across(ring, (g, h))) + number_of(across(ring, (p, q)))
        self.assertEqual(crossed, apart + 2 * number_of(extra), (ring, g, h, p, q))

    def test_all_four_ties_of_small_rings(self):
        for ring in many_rings():
            if len(ring[0]) <= 6:
                for ties in itertools.combinations_with_replacement(range(len(ring[0])), 4):
                    self.check(ring, *ties)

    def test_some_four_ties_of_all_rings(self):
        chance = random.Random(44)
        for ring in many_rings() + long_rings():
            for step in range(8):
                self.check(ring, *sorted([chance.randrange(len(ring[0])) for tie in range(4)]))

    def test_an_example(self):
        ring = plain_ring(6, [(2, 5, 3), (0, 3, 4), (2, 3, 50), (1, 2, 100), (4, 3, 200), (0, 5, 400), (5, 3, 7)])
        self.assertEqual(extra_of(ring, 0, 1, 3, 4), (14, 1))
        self.assertEqual(extra_of(ring, 0, 1, 1, 4), (0, 1))
        self.assertEqual(extra_of(ring, 0, 0, 0, 0), (0, 1))
        self.assertEqual(extra_of(ring, 0, 0, 5, 5), (404, 1))
        self.assertEqual(extra_of(plain_ring(6, []), 0, 1, 3, 4), (0, 1))

    def test_what_is_handed_in_stays(self):
        told_anew(self, extra_of, (plain_ring(6, [(2, 5, 3), (0, 3, 4)]), 0, 1, 3, 4))
