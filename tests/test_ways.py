"""[2.3] Ways, their ties, whether a tie is on a way, the other way."""

import unittest

from ringloads.ways import is_over, other_way, ties_of
from tests.samples import many_rings, no_list_shared, plain_ring, told_anew, walked


def all_asks(places):
    """A ring with an ask between any two places, told either way round."""
    pairs = [(one, other, 1) for one in range(places) for other in range(places) if one != other]
    return plain_ring(places, pairs)


class Ways(unittest.TestCase):
    def test_the_other_way(self):
        self.assertEqual(other_way("on"), "back")
        self.assertEqual(other_way("back"), "on")

    def test_two_places(self):
        ring = plain_ring(2, [(0, 1, 1), (1, 0, 1)])
        self.assertEqual(ties_of(ring, 0, "on"), [0])
        self.assertEqual(ties_of(ring, 0, "back"), [1])
        self.assertEqual(ties_of(ring, 1, "on"), [1])
        self.assertEqual(ties_of(ring, 1, "back"), [0])

    def test_the_order_in_which_one_goes(self):
        ring = plain_ring(5, [(1, 3, 1), (3, 1, 1), (4, 0, 1), (0, 4, 1)])
        self.assertEqual(ties_of(ring, 0, "on"), [1, 2])
        self.assertEqual(ties_of(ring, 0, "back"), [0, 4, 3])
        self.assertEqual(ties_of(ring, 1, "on"), [3, 4, 0])
        self.assertEqual(ties_of(ring, 1, "back"), [2, 1])
        self.assertEqual(ties_of(ring, 2, "on"), [4])
        self.assertEqual(ties_of(ring, 2, "back"), [3, 2, 1, 0])
        self.assertEqual(ties_of(ring, 3, "on"), [0, 1, 2, 3])
        self.assertEqual(ties_of(ring, 3, "back"), [4])

    def test_all_asks_of_all_rings(self):
        for places in range(2, 13):
            ring = all_asks(places)
            for k in range(len(ring[1])):
                for way in ("on", "back"):
                    ties = ties_of(ring, k, way)
                    self.assertIs(type(ties), list)
                    self.assertEqual(ties, walked(ring, k, way))
                    for tie in range(places):
                        self.assertIs(is_over(ring, k, way, tie), tie in ties, (ring[1][k], way, tie))

    def test_each_tie_is_in_just_one_of_both(self):
        for ring in many_rings():
            for k in range(len(ring[1])):
                both = ties_of(ring, k, "on") + ties_of(ring, k, "back")
                self.assertEqual(sorted(both), list(range(len(ring[0]))))

    def test_lists_are_the_askers_own(self):
        ring = all_asks(6)
        for k in range(len(ring[1])):
            for way in ("on", "back"):
                told_anew(self, ties_of, (ring, k, way))
                no_list_shared(self, ties_of(ring, k, way), ties_of(ring, k, way))
                told_anew(self, is_over, (ring, k, way, 2))
