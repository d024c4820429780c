"""[11.1], [11.2], [11.5], [0.4] (f) Rings turned, mirrored, scaled, with asks told the other way round."""

import copy
import random
import unittest

from ringloads.best import best_ways
from ringloads.leasts import least_top
from ringloads.rings import look_at_ring
from ringloads.turning import (
    mirrored_ring, mirrored_sending, round_sending, scaled_ring, scaled_sending, told_round, turned_ring,
)
from tests.samples import (
    full_rings, is_sending_to_the_kind, load_numbers, long_rings, many_rings, no_list_shared, number_of, plain_ring,
    small_ratio, small_rings, some_sending, told, told_anew,
)

RING = (
    [(1, 1), (2, 1), (3, 1), (4, 1)],
    [("a", 0, 1, (1, 1)), ("b", 3, 1, (3, 4)), ("c", 2, 0, (0, 1))],
)


def some_rings():
    return many_rings()[::3] + full_rings(2) + long_rings()


def some_numbers(chance, ring):
    """Numbers of asks, unlike, in any order."""
    return chance.sample(range(len(ring[1])), chance.randint(0, len(ring[1])))


class Turning(unittest.TestCase):
    def is_new_ring(self, ring, made):
        self.assertIs(type(made), tuple)
        self.assertIsNone(look_at_ring(made))
        no_list_shared(self, ring, made)

    def tie_by_tie(self, ring, sending, made, taken, numbers, factor=1):
        """Check that each tie's load, times the factor, is that of the tie of its new number."""
        self.assertTrue(is_sending_to_the_kind(made, taken))
        before = load_numbers(ring, sending)
        behind = load_numbers(made, taken)
        self.assertEqual(len(before), len(behind))
        for tie, load in enumerate(before):
            self.assertEqual(behind[numbers[tie]], load * factor, (ring, sending, made))

    def same_tops(self, ring, made, factor=1):
        self.assertEqual(number_of(least_top(made)[0]), number_of(least_top(ring)[0]) * factor, (ring, made))
        if len(ring[1]) <= 7:
            self.assertEqual(number_of(best_ways(made)[0]), number_of(best_ways(ring)[0]) * factor, (ring, made))


class Turned(Turning):
    def check(self, ring, many):
        made = turned_ring(ring, many)
        self.is_new_ring(ring, made)
        places = len(ring[0])
        numbers = [place + many if place + many < places else place + many - places for place in range(places)]
        for tie in range(places):
            self.assertEqual(made[0][numbers[tie]], ring[0][tie])
        asked = [(name, numbers[one], numbers[other], size) for name, one, other, size in ring[1]]
        self.assertEqual(made[1], asked)
        return made, numbers

    def test_every_count(self):
        chance = random.Random(1101)
        for ring in some_rings():
            for many in range(len(ring[0])):
                made, numbers = self.check(ring, many)
                sending = some_sending(chance, ring)
                self.tie_by_tie(ring, sending, made, sending, numbers)

    def test_by_nought_and_one_less_than_the_places(self):
        for ring in some_rings():
            self.assertEqual(turned_ring(ring, 0), ring)
            once = turned_ring(ring, 1)
            self.assertEqual(turned_ring(once, len(ring[0]) - 1), ring)
            self.assertEqual(turned_ring(turned_ring(ring, len(ring[0]) - 1), 1), ring)

    def test_example(self):
        asked = ([(4, 1), (1, 1), (2, 1), (3, 1)], [("a", 1, 2, (1, 1)), ("b", 0, 2, (3, 4)), ("c", 3, 1, (0, 1))])
        self.assertEqual(turned_ring(RING, 1), asked)
        self.assertEqual(turned_ring(RING, 3)[0], [(2, 1), (3, 1), (4, 1), (1, 1)])
        self.assertEqual(turned_ring(([(1, 1), (2, 1)], []), 1), ([(2, 1), (1, 1)], []))

    def test_tops(self):
        for ring in small_rings(60) + full_rings(2):
            for many in range(len(ring[0])):
                self.same_tops(ring, turned_ring(ring, many))

    def test_what_is_handed_in_stays(self):
        for many in range(4):
            told_anew(self, turned_ring, (RING, many))


class Mirrored(Turning):
    def test_many_rings(self):
        chance = random.Random(1102)
        for ring in some_rings():
            made = mirrored_ring(ring)
            self.is_new_ring(ring, made)
            last = len(ring[0]) - 1
            ties = [tie if tie == last else last - 1 - tie for tie in range(last + 1)]
            for tie in range(last + 1):
                self.assertEqual(made[0][ties[tie]], ring[0][tie])
            self.assertEqual(made[1], [(name, last - one, last - other, size) for name, one, other, size in ring[1]])
            sending = some_sending(chance, ring)
            taken = mirrored_sending(ring, sending)
            self.assertEqual(taken, [told(number_of(ask[3]) - number_of(part)) for ask, part in zip(ring[1], sending)])
            self.tie_by_tie(ring, sending, made, taken, ties)

    def test_twice(self):
        chance = random.Random(1103)
        for ring in some_rings():
            self.assertEqual(mirrored_ring(mirrored_ring(ring)), ring)
            sending = some_sending(chance, ring)
            self.assertEqual(mirrored_sending(mirrored_ring(ring), mirrored_sending(ring, sending)), sending)

    def test_examples(self):
        asked = ([(3, 1), (2, 1), (1, 1), (4, 1)], [("a", 3, 2, (1, 1)), ("b", 0, 2, (3, 4)), ("c", 1, 3, (0, 1))])
        self.assertEqual(mirrored_ring(RING), asked)
        self.assertEqual(mirrored_sending(RING, [(1, 1), (1, 4), (0, 1)]), [(0, 1), (1, 2), (0, 1)])
        two = ([(1, 1), (2, 1)], [("a", 0, 1, (1, 1))])
        self.assertEqual(mirrored_ring(two), ([(1, 1), (2, 1)], [("a", 1, 0, (1, 1))]))
        self.assertEqual(mirrored_ring(plain_ring(12, [])), plain_ring(12, []))
        self.assertEqual(mirrored_sending(plain_ring(12, []), []), [])

    def test_tops(self):
        for ring in small_rings(90) + full_rings(3):
            self.same_tops(ring, mirrored_ring(ring))

    def test_what_is_handed_in_stays(self):
        told_anew(self, mirrored_ring, (RING,))
        told_anew(self, mirrored_sending, (RING, [(1, 1), (1, 4), (0, 1)]))


class Scaled(Turning):
    def test_many_rings(self):
        chance = random.Random(1104)
        for ring in some_rings():
            for step in range(2):
                size, room = small_ratio(chance, False), small_ratio(chance, False)
                made = scaled_ring(ring, size, room)
                self.is_new_ring(ring, made)
                self.assertEqual(made[0], [told(number_of(one) * number_of(room)) for one in ring[0]])
                asks = [ask[:3] + (told(number_of(ask[3]) * number_of(size)),) for ask in ring[1]]
                self.assertEqual(made[1], asks)
                sending = some_sending(chance, ring)
                taken = scaled_sending(sending, size)
                self.assertEqual(taken, [told(number_of(part) * number_of(size)) for part in sending])
                self.tie_by_tie(ring, sending, made, taken, list(range(len(ring[0]))), number_of(size))

    def test_by_one(self):
        chance = random.Random(1105)
        for ring in some_rings():
            self.assertEqual(scaled_ring(ring, (1, 1), (1, 1)), ring)
            self.is_new_ring(ring, scaled_ring(ring, (1, 1), (1, 1)))
            sending = some_sending(chance, ring)
            self.assertEqual(scaled_sending(sending, (1, 1)), sending)
            self.assertIsNot(scaled_sending(sending, (1, 1)), sending)

    def test_there_and_back(self):
        for ring in some_rings():
            self.assertEqual(scaled_ring(scaled_ring(ring, (2, 3), (5, 7)), (3, 2), (7, 5)), ring)

    def test_examples(self):
        asked = ([(1, 2), (1, 1), (3, 2), (2, 1)], [("a", 0, 1, (4, 3)), ("b", 3, 1, (1, 1)), ("c", 2, 0, (0, 1))])
        self.assertEqual(scaled_ring(RING, (4, 3), (1, 2)), asked)
        self.assertEqual(scaled_sending([(3, 4), (0, 1)], (4, 3)), [(1, 1), (0, 1)])
        self.assertEqual(scaled_sending([], (4, 3)), [])

    def test_tops(self):
        chance = random.Random(1106)
        for ring in small_rings(90) + full_rings(3):
            size, room = small_ratio(chance, False), small_ratio(chance, False)
            self.same_tops(ring, scaled_ring(ring, size, room), number_of(size) / number_of(room))

    def test_what_is_handed_in_stays(self):
        told_anew(self, scaled_ring, (RING, (4, 3), (1, 2)))
        told_anew(self, scaled_sending, ([(1, 1), (1, 4), (0, 1)], (4, 3)))


class ToldRound(Turning):
    def test_many_rings(self):
        chance = random.Random(1107)
        for ring in some_rings():
            for some in ([], list(range(len(ring[1]))), some_numbers(chance, ring), some_numbers(chance, ring)):
                made = told_round(ring, some)
                self.is_new_ring(ring, made)
                self.assertEqual(made[0], ring[0])
                self.assertEqual(len(made[1]), len(ring[1]))
                sending = some_sending(chance, ring)
                taken = round_sending(ring, some, sending)
                for k, ask in enumerate(ring[1]):
                    name, one, other, size = ask
                    self.assertEqual(made[1][k], (name, other, one, size) if k in some else ask)
                    rest = told(number_of(size) - number_of(sending[k]))
                    self.assertEqual(taken[k], rest if k in some else sending[k])
                self.tie_by_tie(ring, sending, made, taken, list(range(len(ring[0]))))
                self.assertEqual(told_round(made, some), ring)
                self.assertEqual(round_sending(made, some, taken), sending)

    def test_a_list_of_no_asks(self):
        for ring in some_rings():
            self.assertEqual(told_round(ring, []), ring)
            self.is_new_ring(ring, told_round(ring, []))
            sending = [(0, 1) for ask in ring[1]]
            self.assertEqual(round_sending(ring, [], sending), sending)
            self.assertIsNot(round_sending(ring, [], sending), sending)

    def test_examples(self):
        asks = [("a", 0, 1, (1, 1)), ("b", 1, 3, (3, 4)), ("c", 0, 2, (0, 1))]
        self.assertEqual(told_round(RING, [2, 1]), (RING[0], asks))
        self.assertEqual(round_sending(RING, [2, 1], [(1, 1), (1, 4), (0, 1)]), [(1, 1), (1, 2), (0, 1)])

    def test_tops(self):
        chance = random.Random(1108)
        for ring in small_rings(90) + full_rings(3):
            self.same_tops(ring, told_round(ring, some_numbers(chance, ring)))

    def test_what_is_handed_in_stays(self):
        told_anew(self, told_round, (RING, [2, 1]))
        told_anew(self, round_sending, (RING, [2, 1], [(1, 1), (1, 4), (0, 1)]))

    def test_what_is_done_behind_the_call_changes_nothing(self):
        ring, some = copy.deepcopy(RING), [0]
        made = told_round(ring, some)
        kept = copy.deepcopy(made)
        ring[0].clear()
        ring[1].clear()
        some.clear()
        self.assertEqual(made, kept)
