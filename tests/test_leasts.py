"""[5.2], [5.3], [0.4] The least top, with its sending and its cut."""

import itertools
import random
import unittest
from fractions import Fraction

from ringloads.leasts import least_top, lets_least
from tests.samples import (
    every_cut, full_rings, has_form_of_ratio, is_sending_to_the_kind, load_numbers, long_rings, many_rings, most_shown,
    no_list_shared, number_of, odd_things, plain_ring, shown_number, small_rings, some_ring, some_sending, spoilings,
    told, told_anew, top_number, unit_room, whole_sending,
)

LITTLE = Fraction(1, 10 ** 9)


def is_least_by_hand(ring, thing):
    """Whether a thing is a least top, to the kinds and forms."""
    if type(thing) is not tuple or len(thing) != 3 or not has_form_of_ratio(thing[0]):
        return False
    if not is_sending_to_the_kind(ring, thing[1]) or top_number(ring, thing[1]) != number_of(thing[0]):
        return False
    cut = thing[2]
    if type(cut) is not tuple or len(cut) != 2 or type(cut[0]) is not int or type(cut[1]) is not int:
        return False
    return cut in every_cut(ring) and shown_number(ring, cut) == number_of(thing[0])


class LeastTop(unittest.TestCase):
    def check(self, ring):
        answer = least_top(ring)
        self.assertTrue(is_least_by_hand(ring, answer), (ring, answer))
        self.assertEqual(number_of(answer[0]), most_shown(ring))
        self.assertIs(lets_least(ring, answer), True)
        return answer

    def test_many_rings(self):
        for ring in many_rings():
            self.check(ring)

    def test_full_rings(self):
        for ring in full_rings(60):
            self.check(ring)

    def test_small_rings(self):
        for ring in small_rings(300):
            self.check(ring)

    def test_sixty_figures(self):
        for ring in long_rings():
            self.check(ring)

    def test_no_sending_has_a_lesser_top(self):
        chance = random.Random(52)
        for ring in small_rings(60):
            top = number_of(least_top(ring)[0])
            for ways in itertools.product(["on", "back"], repeat=len(ring[1])):
                self.assertGreaterEqual(top_number(ring, whole_sending(ring, ways)), top)
            for step in range(10):
                self.assertGreaterEqual(top_number(ring, some_sending(chance, ring)), top)

    def test_no_asks_and_asks_of_nought(self):
        for places in range(2, 13):
            answer = self.check(plain_ring(places, []))
            self.assertEqual(answer[:2], ((0, 1), []))
            answer = self.check(plain_ring(places, [(0, places - 1, 0), (1, 0, 0), (0, 1, 0)]))
            self.assertEqual(answer[:2], ((0, 1), [(0, 1), (0, 1), (0, 1)]))

    def test_two_places(self):
        ring = ([(1, 1), (2, 1)], [("a", 0, 1, (3, 1)), ("b", 1, 0, (5, 1)), ("c", 0, 1, (0, 1))])
        answer = self.check(ring)
        self.assertEqual(answer[0], (8, 3))
        self.assertEqual(answer[2], (0, 1))

    def test_examples(self):
        self.assertEqual(self.check(plain_ring(4, [(0, 2, 1), (1, 3, 1)])), ((1, 1), [(1, 2), (1, 2)], (0, 2)))
        self.assertEqual(self.check(plain_ring(5, [(3, 1, 3)]))[:2], ((3, 2), [(3, 2)]))
        self.assertEqual(self.check(plain_ring(3, [(0, 1, 1), (1, 2, 1), (2, 0, 1)]))[0], (1, 1))
        rooms = ([(1, 3), (4, 1), (1, 6)], [("a", 0, 1, (2, 1))])
        self.assertEqual(self.check(rooms)[0], (4, 1))

    def test_whole_sizes_on_rooms_of_one_make_halves(self):
        chance = random.Random(53)
        for step in range(300):
            ring = some_ring(chance, chance.randint(2, 12), chance.randint(0, 20), unit_room)
            for part in least_top(ring)[1]:
                self.assertIn(part[1], (1, 2), ring)

    def test_what_is_handed_in_stays(self):
        for ring in many_rings()[::13]:
            answer = told_anew(self, least_top, (ring,))
            no_list_shared(self, answer, ring)
            told_anew(self, lets_least, (ring, answer))
            told_anew(self, lets_least, (ring, (answer[0], [], answer[2])))


class LetsLeast(unittest.TestCase):
    def check_all_spoilt(self, ring):
        right = least_top(ring)
        refused = 0
        for thing in spoilings(right):
            asked = is_least_by_hand(ring, thing)
            self.assertIs(lets_least(ring, thing), asked, (ring, thing))
            refused += not asked
        self.assertGreater(refused, 100)

    def test_one_thing_spoilt_at_each_place(self):
        for ring in small_rings(25):
            self.check_all_spoilt(ring)
        self.check_all_spoilt(full_rings(1)[0])
        self.check_all_spoilt(plain_ring(2, []))
        self.check_all_spoilt(plain_ring(2, [(1, 0, 0)]))

    def test_things_of_other_kinds(self):
        ring = plain_ring(4, [(0, 2, 1), (1, 3, 1)])
        right = ((1, 1), [(1, 2), (1, 2)], (0, 2))
        self.assertIs(lets_least(ring, right), True)
        for thing in odd_things():
            self.assertIs(lets_least(ring, thing), False, repr(thing))
            for number in range(3):
                spoilt = list(right)
                spoilt[number] = thing
                asked = number == 2 and thing == (0, 2)
                self.assertIs(lets_least(ring, tuple(spoilt)), asked, (number, thing))
        wrong = [
            list(right), right[:2], right + (None,), right + ((0, 2),), (right,), {0: 1, 1: 2, 2: 3},
            ((2, 2), right[1], right[2]), ((True, 1), right[1], right[2]), ((1, True), right[1], right[2]),
            ([1, 1], right[1], right[2]), (1, right[1], right[2]),
            (right[0], tuple(right[1]), right[2]), (right[0], [(1, 2), (2, 4)], right[2]),
            (right[0], [(1, 2), [1, 2]], right[2]), (right[0], [(1, 2)], right[2]), (right[0], right[1] * 2, right[2]),
            (right[0], [(1, 2), (-1, -2)], right[2]), (right[0], right[1], [0, 2]), (right[0], right[1], (False, 2)),
            (right[0], right[1], (2, 0)), (right[0], right[1], (0, 4)), (right[0], right[1], (-4, 2)),
            (right[0], right[1], (0, 2, 2)), (right[0], right[1], (0,)), (right[1], right[0], right[2]),
        ]
        for thing in wrong:
            self.assertIs(lets_least(ring, thing), False, thing)

    def test_whoever_wrote_it(self):
        ring = plain_ring(6, [(0, 3, 2), (1, 2, 0)])
        for cut in every_cut(ring):
            parts = cut[0] < 3 <= cut[1]
            for part in ((0, 1), (1, 2), (1, 1), (3, 2), (2, 1)):
                asked = parts and part == (1, 1)
                self.assertIs(lets_least(ring, ((1, 1), [part, (0, 1)], cut)), asked, (cut, part))

    def test_many_other_sendings_and_cuts(self):
        chance = random.Random(522)
        for ring in small_rings(80):
            top = told(most_shown(ring))
            sendings = [some_sending(chance, ring) for step in range(6)] + [least_top(ring)[1]]
            for cut in every_cut(ring):
                for sending in sendings:
                    for other in (top, told(top_number(ring, sending)), told(shown_number(ring, cut))):
                        thing = (other, sending, cut)
                        self.assertIs(lets_least(ring, thing), is_least_by_hand(ring, thing), (ring, thing))
                        if is_least_by_hand(ring, thing):
                            self.assertEqual(other, top)

    def test_a_top_that_is_not_just_it(self):
        for ring in small_rings(40):
            top, sending, cut = least_top(ring)
            for change in (LITTLE, -LITTLE, Fraction(1), Fraction(-1)):
                self.assertIs(lets_least(ring, (told(number_of(top) + change), sending, cut)), False)

    def test_a_sending_below_the_top_elsewhere(self):
        # The sending's top is just the told one, but its cut shows less, and the other way round.
        ring = plain_ring(4, [(0, 2, 2)])
        self.assertIs(lets_least(ring, ((2, 1), [(2, 1)], (0, 2))), False)
        self.assertIs(lets_least(ring, ((1, 1), [(2, 1)], (0, 2))), False)
        self.assertIs(lets_least(ring, ((1, 1), [(1, 1)], (0, 0))), False)
        self.assertIs(lets_least(ring, ((1, 1), [(1, 1)], (0, 2))), True)
        self.assertIs(lets_least(ring, ((1, 1), [(1, 1)], (1, 3))), True)

    def test_parts_out_of_bounds(self):
        # Both rests and parts together load every tie as a least sending would.
        ring = plain_ring(2, [(0, 1, 2), (0, 1, 2)])
        self.assertEqual(load_numbers(ring, [(3, 1), (-1, 1)]), [2, 2])
        self.assertIs(lets_least(ring, ((2, 1), [(3, 1), (-1, 1)], (0, 1))), False)
        self.assertIs(lets_least(ring, ((2, 1), [(2, 1), (0, 1)], (0, 1))), True)
