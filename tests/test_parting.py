"""[5.1], [5.3], [5.4], [0.4] What fits a top, and how much more of an ask fits."""

import itertools
import random
import unittest
from fractions import Fraction

from ringloads.parting import fitting, most_more
from tests.samples import (
    every_cut, full_rings, has_form_of_ratio, load_numbers, long_rings, many_rings, most_shown, number_of, plain_ring,
    shown_number, small_rings, told, told_anew, with_ask_more,
)

LITTLE = Fraction(1, 10 ** 9)


def tops_about(shown):
    """Tops at, a little under, a little over and far from what is shown."""
    tops = [shown, shown + LITTLE, shown + Fraction(1, 3), 2 * shown, shown - LITTLE, shown / 2, Fraction(0)]
    return [top for top in tops if top >= 0]


class Parting(unittest.TestCase):
    def check_fits(self, ring, top):
        """Check what fitting tells; give back the sending, or None."""
        answer = fitting(ring, told(top))
        self.assertIs(type(answer), tuple)
        self.assertEqual(len(answer), 2)
        if most_shown(ring) > top:
            self.assertEqual(answer[0], "cut", (ring, top))
            self.assertIs(type(answer[1]), tuple)
            self.assertIn(answer[1], every_cut(ring))
            self.assertGreater(shown_number(ring, answer[1]), top)
            return None
        self.assertEqual(answer[0], "sending", (ring, top))
        self.check_sending(ring, answer[1], top)
        return answer[1]

    def check_sending(self, ring, sending, top):
        self.assertIs(type(sending), list)
        self.assertEqual(len(sending), len(ring[1]))
        for part, ask in zip(sending, ring[1]):
            self.assertTrue(has_form_of_ratio(part), part)
            self.assertTrue(0 <= number_of(part) <= number_of(ask[3]), (ring, top, sending))
        for load, room in zip(load_numbers(ring, sending), ring[0]):
            self.assertLessEqual(load, top * number_of(room), (ring, top, sending))

    def check_more(self, ring, one, other, top):
        answer = most_more(ring, one, other, told(top))
        self.assertIs(type(answer), tuple)
        if most_shown(ring) > top:
            self.assertEqual((answer[0], len(answer)), ("none", 2))
            self.assertIs(type(answer[1]), tuple)
            self.assertIn(answer[1], every_cut(ring))
            self.assertGreater(shown_number(ring, answer[1]), top)
            return None
        self.assertEqual((answer[0], len(answer)), ("most", 3))
        size = answer[1]
        cut = answer[2]
        self.assertTrue(has_form_of_ratio(size))
        self.assertGreaterEqual(number_of(size), 0)
        self.assertIs(type(cut), tuple)
        self.assertIn(cut, every_cut(ring))
        self.assertNotEqual(cut[0] < one <= cut[1], cut[0] < other <= cut[1])
        fuller = with_ask_more(ring, one, other, size)
        self.assertEqual(shown_number(fuller, cut), top)
        self.assertIsNotNone(self.check_fits(fuller, top))
        too_full = with_ask_more(ring, one, other, told(number_of(size) + LITTLE))
        self.assertIsNone(self.check_fits(too_full, top))
        return size


class Fitting(Parting):
    def test_many_rings(self):
        for ring in many_rings():
            for top in tops_about(most_shown(ring)):
                self.check_fits(ring, top)

    def test_small_rings(self):
        for ring in small_rings(300):
            self.check_fits(ring, most_shown(ring))

    def test_full_rings(self):
        for ring in full_rings(60):
            for top in tops_about(most_shown(ring))[:2]:
                self.assertIsNotNone(self.check_fits(ring, top))
            self.assertIsNone(self.check_fits(ring, most_shown(ring) - LITTLE))

    def test_sixty_figures(self):
        for ring in long_rings():
            for top in tops_about(most_shown(ring)):
                self.check_fits(ring, top)

    def test_each_ask_between_all_places(self):
        for places in range(2, 8):
            for one, other in itertools.permutations(range(places), 2):
                ring = plain_ring(places, [(one, other, 3)])
                self.assertEqual(self.check_fits(ring, Fraction(3, 2)), [(3, 2)])

    def test_asks_that_cross(self):
        ring = plain_ring(4, [(0, 2, 1), (1, 3, 1)])
        self.assertEqual(self.check_fits(ring, Fraction(1)), [(1, 2), (1, 2)])
        self.assertIsNone(self.check_fits(ring, Fraction(1) - LITTLE))

    def test_a_top_of_nought(self):
        for places in range(2, 13):
            self.assertEqual(fitting(plain_ring(places, []), (0, 1)), ("sending", []))
            ring = plain_ring(places, [(0, places - 1, 0), (1, 0, 0)])
            self.assertEqual(fitting(ring, (0, 1)), ("sending", [(0, 1), (0, 1)]))
            self.assertIsNone(self.check_fits(plain_ring(places, [(0, places - 1, 1)]), Fraction(0)))

    def test_no_asks_fit_any_top(self):
        for top in ((0, 1), (1, 10 ** 60), (7, 1)):
            self.assertEqual(fitting(plain_ring(3, []), top), ("sending", []))

    def test_narrow_and_wide_ties(self):
        ring = ([(1, 100), (100, 1), (1, 1)], [("a", 0, 1, (2, 1)), ("b", 1, 2, (5, 1)), ("c", 2, 0, (1, 2))])
        for top in tops_about(most_shown(ring)):
            self.check_fits(ring, top)

    def test_wholes_and_halves(self):
        chance = random.Random(53)
        for ring in [ring for ring in many_rings() + full_rings(30) if whole_on_ones(ring)]:
            shown = most_shown(ring)
            for more in (Fraction(0), Fraction(1, 2), Fraction(1), Fraction(chance.randint(2, 30), 2)):
                sending = self.check_fits(ring, shown + more)
                for part in sending:
                    self.assertEqual((2 * number_of(part)).denominator, 1, (ring, more, sending))

    def test_what_is_handed_in_stays(self):
        for ring in many_rings()[::13]:
            for top in tops_about(most_shown(ring)):
                told_anew(self, fitting, (ring, told(top)))

    def test_a_ring_changed_behind_the_call_is_asked_anew(self):
        ring = plain_ring(4, [(0, 2, 1), (1, 3, 1)])
        self.assertEqual(fitting(ring, (1, 1))[0], "sending")
        ring[1].append(("more", 0, 2, (1, 1)))
        self.assertEqual(fitting(ring, (1, 1))[0], "cut")
        ring[0][0] = (9, 1)
        ring[0][1] = (9, 1)
        self.check_fits(ring, most_shown(ring))


def whole_on_ones(ring):
    return all([room == (1, 1) for room in ring[0]]) and all([ask[3][1] == 1 for ask in ring[1]])


class MostMore(Parting):
    def test_many_rings(self):
        chance = random.Random(54)
        for ring in many_rings():
            for top in tops_about(most_shown(ring)):
                one, other = chance.sample(range(len(ring[0])), 2)
                self.check_more(ring, one, other, top)

    def test_all_places(self):
        for ring in small_rings(20):
            top = most_shown(ring) + Fraction(1, 2)
            for one, other in itertools.permutations(range(len(ring[0])), 2):
                self.assertIsNotNone(self.check_more(ring, one, other, top))

    def test_twenty_asks(self):
        chance = random.Random(55)
        for ring in full_rings(15):
            one, other = chance.sample(range(12), 2)
            for top in tops_about(most_shown(ring)):
                self.check_more(ring, one, other, top)

    def test_sixty_figures(self):
        for ring in long_rings():
            self.check_more(ring, 0, 1, most_shown(ring) + LITTLE)
            self.check_more(ring, 1, 0, most_shown(ring) - LITTLE)

    def test_examples(self):
        ring = plain_ring(4, [(0, 2, 2)])
        self.assertEqual(most_more(ring, 0, 2, (1, 1))[:2], ("most", (0, 1)))
        self.assertEqual(most_more(ring, 0, 2, (3, 2))[:2], ("most", (1, 1)))
        self.assertEqual(most_more(ring, 1, 3, (1, 1))[:2], ("most", (0, 1)))
        self.assertEqual(most_more(ring, 1, 3, (7, 4))[:2], ("most", (3, 2)))
        self.assertEqual(most_more(ring, 1, 2, (1, 1))[:2], ("most", (0, 1)))
        self.assertEqual(most_more(ring, 0, 2, (9, 10))[0], "none")
        self.assertEqual(most_more(plain_ring(2, []), 1, 0, (3, 1)), ("most", (6, 1), (0, 1)))
        self.assertEqual(most_more(plain_ring(2, []), 0, 1, (0, 1)), ("most", (0, 1), (0, 1)))

    def test_a_cut_elsewhere_that_shows_more(self):
        ring = plain_ring(6, [(0, 1, 10)])
        for one, other in itertools.permutations(range(6), 2):
            self.assertIsNone(self.check_more(ring, one, other, Fraction(4)))
            self.check_more(ring, one, other, Fraction(5))
            self.check_more(ring, one, other, Fraction(6))

    def test_rooms_count(self):
        ring = ([(9, 1), (1, 1), (9, 1), (2, 1)], [("a", 0, 2, (3, 1))])
        self.assertEqual(most_more(ring, 0, 2, (2, 1)), ("most", (3, 1), (1, 3)))

    def test_what_is_handed_in_stays(self):
        for ring in many_rings()[::13]:
            for top in tops_about(most_shown(ring)):
                told_anew(self, most_more, (ring, 0, 1, told(top)))
