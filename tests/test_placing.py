"""[11.2], [11.3], [11.5], [0.4] (f) Places put into a ring and taken out of it."""

import copy
import random
import unittest

from ringloads.best import best_ways
from ringloads.errors import LoadError, NoPlace
from ringloads.leasts import least_top
from ringloads.placing import place_put, place_taken
from ringloads.rings import look_at_ring
from tests.samples import (
    full_rings, is_sending_to_the_kind, load_numbers, long_rings, many_rings, no_list_shared, number_of, plain_ring,
    small_rings, some_sending, told_anew,
)

RING = ([(1, 1), (2, 1), (3, 1), (4, 1)], [("a", 0, 1, (1, 1)), ("b", 3, 1, (3, 4))])


def some_rings():
    return many_rings()[::2] + full_rings(2) + long_rings()


class Placing(unittest.TestCase):
    def is_new_ring(self, ring, made):
        self.assertIs(type(made), tuple)
        self.assertIsNone(look_at_ring(made))
        no_list_shared(self, ring, made)

    def refused(self, ask, ring, number):
        kept = copy.deepcopy(ring)
        with self.assertRaises(NoPlace) as caught:
            ask(ring, number)
        self.assertIsInstance(caught.exception, LoadError)
        self.assertEqual(ring, kept)

    def same_tops(self, ring, made):
        self.assertEqual(least_top(made)[0], least_top(ring)[0], (ring, made))
        if len(ring[1]) <= 7:
            self.assertEqual(best_ways(made)[0], best_ways(ring)[0], (ring, made))

    def same_loads(self, chance, ring, made, ties):
        """Check the loads; ties tells of each tie of the ring the tie, or ties, that it is then."""
        sending = some_sending(chance, ring)
        self.assertTrue(is_sending_to_the_kind(made, sending))
        before = load_numbers(ring, sending)
        behind = load_numbers(made, sending)
        for tie, others in enumerate(ties):
            for other in others:
                self.assertEqual(behind[other], before[tie], (ring, made, sending))


class PlacePut(Placing):
    def check(self, chance, ring, tie):
        made = place_put(ring, tie)
        self.is_new_ring(ring, made)
        places = len(ring[0])
        self.assertEqual(len(made[0]), places + 1)
        ties = [[i] if i < tie else [i + 1] for i in range(places)]
        ties[tie] = [tie, tie + 1]
        for i, others in enumerate(ties):
            self.assertEqual([made[0][other] for other in others], [ring[0][i]] * len(others))
        asks = [(name, one + (one > tie), other + (other > tie), size) for name, one, other, size in ring[1]]
        self.assertEqual(made[1], asks)
        self.same_loads(chance, ring, made, ties)
        self.assertEqual(place_taken(made, tie + 1), ring)
        return made

    def test_every_tie(self):
        chance = random.Random(1111)
        for ring in some_rings():
            for tie in range(len(ring[0])):
                if len(ring[0]) < 12:
                    self.check(chance, ring, tie)
                else:
                    self.refused(place_put, ring, tie)

    def test_the_last_tie(self):
        self.assertEqual(place_put(RING, 3), (RING[0] + [(4, 1)], RING[1]))
        two = ([(1, 1), (2, 1)], [("a", 1, 0, (1, 1))])
        self.assertEqual(place_put(two, 1), ([(1, 1), (2, 1), (2, 1)], [("a", 1, 0, (1, 1))]))
        self.assertEqual(place_put(two, 0), ([(1, 1), (1, 1), (2, 1)], [("a", 2, 0, (1, 1))]))

    def test_examples(self):
        asked = ([(1, 1), (2, 1), (2, 1), (3, 1), (4, 1)], [("a", 0, 1, (1, 1)), ("b", 4, 1, (3, 4))])
        self.assertEqual(place_put(RING, 1), asked)
        asked = ([(1, 1), (1, 1), (2, 1), (3, 1), (4, 1)], [("a", 0, 2, (1, 1)), ("b", 4, 2, (3, 4))])
        self.assertEqual(place_put(RING, 0), asked)

    def test_eleven_and_twelve_places(self):
        chance = random.Random(1112)
        for asks in ([], [(0, 10, 1), (10, 0, 2)], [(k % 11, (k + 3) % 11, k) for k in range(20)]):
            for tie in range(11):
                self.assertEqual(len(self.check(chance, plain_ring(11, asks), tie)[0]), 12)
            for tie in range(12):
                self.refused(place_put, plain_ring(12, asks), tie)

    def test_tops(self):
        for ring in small_rings(60) + [ring for ring in many_rings()[::5] if len(ring[0]) < 12]:
            for tie in range(len(ring[0])):
                self.same_tops(ring, place_put(ring, tie))

    def test_what_is_handed_in_stays(self):
        for tie in range(4):
            told_anew(self, place_put, (RING, tie))


class PlaceTaken(Placing):
    def check(self, chance, ring, place):
        made = place_taken(ring, place)
        self.is_new_ring(ring, made)
        places = len(ring[0])
        self.assertEqual(len(made[0]), places - 1)
        ahead = place - 1 if place > 0 else places - 1
        joined = place - 1 if place > 0 else places - 2
        ties = [[joined] if i in (ahead, place) else [i if i < place else i - 1] for i in range(places)]
        for i in range(places):
            if i not in (ahead, place):
                self.assertEqual(made[0][ties[i][0]], ring[0][i])
        self.assertEqual(made[0][joined], min(ring[0][ahead], ring[0][place], key=number_of))
        asks = [(name, one - (one > place), other - (other > place), size) for name, one, other, size in ring[1]]
        self.assertEqual(made[1], asks)
        self.same_loads(chance, ring, made, ties)
        return made

    def test_every_place(self):
        chance = random.Random(1113)
        taken = 0
        for ring in some_rings():
            for place in range(len(ring[0])):
                if len(ring[0]) > 2 and not any([place in ask[1:3] for ask in ring[1]]):
                    self.check(chance, ring, place)
                    taken += 1
                else:
                    self.refused(place_taken, ring, place)
        self.assertGreater(taken, 200)

    def test_place_nought_and_the_last_place(self):
        ring = ([(1, 1), (2, 1), (3, 1), (4, 1)], [("a", 1, 2, (1, 1))])
        self.assertEqual(place_taken(ring, 0), ([(2, 1), (3, 1), (1, 1)], [("a", 0, 1, (1, 1))]))
        self.assertEqual(place_taken(ring, 3), ([(1, 1), (2, 1), (3, 1)], [("a", 1, 2, (1, 1))]))
        turned = ([(4, 1), (2, 1), (3, 1), (1, 1)], [("a", 1, 2, (1, 1))])
        self.assertEqual(place_taken(turned, 0), ([(2, 1), (3, 1), (1, 1)], [("a", 0, 1, (1, 1))]))
        self.assertEqual(place_taken(turned, 3), ([(4, 1), (2, 1), (1, 1)], [("a", 1, 2, (1, 1))]))
        self.assertEqual(place_taken(([(1, 1), (2, 1), (3, 1)], []), 0), ([(2, 1), (1, 1)], []))
        self.assertEqual(place_taken(([(1, 1), (2, 1), (3, 1)], []), 1), ([(1, 1), (3, 1)], []))
        self.assertEqual(place_taken(([(1, 1), (2, 1), (3, 1)], []), 2), ([(1, 1), (2, 1)], []))

    def test_two_and_three_places(self):
        for place in range(2):
            self.refused(place_taken, plain_ring(2, []), place)
            self.refused(place_taken, plain_ring(2, [(0, 1, 0)]), place)
        for place in range(3):
            self.assertEqual(place_taken(plain_ring(3, []), place), plain_ring(2, []))
        for place in range(12):
            self.assertEqual(place_taken(plain_ring(12, []), place), plain_ring(11, []))

    def test_places_at_which_an_ask_begins_or_ends(self):
        for size in (0, 1):
            ring = plain_ring(5, [(0, 2, size), (4, 2, size)])
            for place in (0, 2, 4):
                self.refused(place_taken, ring, place)
            for place in (1, 3):
                self.assertEqual(len(place_taken(ring, place)[0]), 4)

    def test_the_lesser_room_as_a_fraction(self):
        ring = ([(2, 3), (5, 8), (1, 1)], [("a", 0, 2, (1, 1))])
        self.assertEqual(place_taken(ring, 1), ([(5, 8), (1, 1)], [("a", 0, 1, (1, 1))]))
        ring = ([(3, 5), (5, 8), (1, 1)], [("a", 0, 2, (1, 1))])
        self.assertEqual(place_taken(ring, 1), ([(3, 5), (1, 1)], [("a", 0, 1, (1, 1))]))

    def test_tops(self):
        taken = 0
        for ring in small_rings(150) + many_rings()[::4]:
            for place in range(len(ring[0])):
                if len(ring[0]) > 2 and not any([place in ask[1:3] for ask in ring[1]]):
                    self.same_tops(ring, place_taken(ring, place))
                    taken += 1
        self.assertGreater(taken, 150)

    def test_what_is_handed_in_stays(self):
        told_anew(self, place_taken, (RING, 2))
        told_anew(self, place_taken, (([(1, 1), (2, 1), (3, 1)], [("a", 1, 2, (1, 1))]), 0))
