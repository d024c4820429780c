"""[4.1] to [4.3], [0.4] Cuts, what goes across them, what they show."""

import itertools
import random
import unittest

from ringloads.cuts import across, all_cuts, cuts_apart, greatest_cut, is_cut, shown_by, sides_of
from ringloads.loads import top_of
from ringloads.sendings import sent_by
from tests.samples import (
    across_number, every_cut, full_rings, has_form_of_ratio, long_rings, many_rings, no_list_shared, number_of,
    odd_things, plain_ring, shown_number, small_rings, some_sending, told, told_anew,
)


class AreCuts(unittest.TestCase):
    def test_all_pairs(self):
        for places in (2, 3, 7, 12):
            ring = plain_ring(places, [])
            for g in range(-2, places + 3):
                for h in range(-2, places + 3):
                    self.assertIs(is_cut(ring, (g, h)), 0 <= g <= h < places, (places, g, h))

    def test_other_kinds(self):
        ring = plain_ring(3, [(0, 1, 1)])
        cuts = every_cut(ring)
        for thing in odd_things():
            asked = type(thing) is tuple and thing in cuts and all([type(tie) is int for tie in thing])
            self.assertIs(is_cut(ring, thing), asked, repr(thing))
            small = type(thing) is int and 0 <= thing <= 2
            self.assertIs(is_cut(ring, (thing, 2)), small, repr(thing))
            self.assertIs(is_cut(ring, (0, thing)), small, repr(thing))
        for thing in ([0, 1], (0,), (0, 1, 2), (0, 1, None), (True, 2), (0, True), (False, 0), (False, True), ("0", "1"),
                      {0: 1, 1: 2}, "01", ((0, 1), (1, 1)), (None, None), (0, None)):
            self.assertIs(is_cut(ring, thing), False, repr(thing))


class Sides(unittest.TestCase):
    def test_all_cuts_of_all_rings(self):
        for places in range(2, 13):
            ring = plain_ring(places, [])
            for cut in every_cut(ring):
                answer = sides_of(ring, cut)
                self.assertIs(type(answer), tuple)
                inside = list(range(cut[0] + 1, cut[1] + 1))
                self.assertEqual(answer, (inside, [place for place in range(places) if place not in inside]))
                self.assertEqual([type(side) for side in answer], [list, list])

    def test_examples(self):
        ring = plain_ring(4, [])
        self.assertEqual(sides_of(ring, (1, 3)), ([2, 3], [0, 1]))
        self.assertEqual(sides_of(ring, (0, 3)), ([1, 2, 3], [0]))
        self.assertEqual(sides_of(ring, (2, 2)), ([], [0, 1, 2, 3]))
        self.assertEqual(sides_of(plain_ring(2, []), (0, 1)), ([1], [0]))

    def test_lists_are_the_askers_own(self):
        ring = plain_ring(5, [(0, 3, 1)])
        for cut in every_cut(ring):
            told_anew(self, sides_of, (ring, cut))
            no_list_shared(self, sides_of(ring, cut), sides_of(ring, cut))


class Shown(unittest.TestCase):
    def test_what_goes_across_and_is_shown(self):
        for ring in many_rings() + long_rings():
            for cut in every_cut(ring):
                self.assertEqual(across(ring, cut), told(across_number(ring, cut)))
                self.assertTrue(has_form_of_ratio(across(ring, cut)))
                self.assertEqual(shown_by(ring, cut), told(shown_number(ring, cut)))
                self.assertTrue(has_form_of_ratio(shown_by(ring, cut)))

    def test_across_one_tie_goes_nothing(self):
        for ring in many_rings():
            for g in range(len(ring[0])):
                self.assertEqual(across(ring, (g, g)), (0, 1))
                self.assertEqual(shown_by(ring, (g, g)), (0, 1))

    def test_examples(self):
        ring = ([(1, 1), (2, 1), (1, 2)], [("a", 0, 1, (3, 1)), ("b", 2, 1, (1, 2)), ("c", 0, 2, (1, 3))])
        self.assertEqual(across(ring, (0, 1)), (7, 2))
        self.assertEqual(shown_by(ring, (0, 1)), (7, 6))
        self.assertEqual(across(ring, (0, 2)), (10, 3))
        self.assertEqual(shown_by(ring, (0, 2)), (20, 9))
        self.assertEqual(across(ring, (1, 2)), (5, 6))
        self.assertEqual(shown_by(ring, (1, 2)), (1, 3))

    def test_no_sending_has_a_lesser_top(self):
        chance = random.Random(42)
        for ring in many_rings() + full_rings(12):
            shown = [number_of(shown_by(ring, cut)) for cut in every_cut(ring)]
            for step in range(3):
                top = number_of(top_of(ring, some_sending(chance, ring))[0])
                self.assertGreaterEqual(top, max(shown))

    def test_no_whole_sending_has_a_lesser_top(self):
        for ring in small_rings(40):
            shown = number_of(greatest_cut(ring)[0])
            for ways in itertools.product(["on", "back"], repeat=len(ring[1])):
                self.assertGreaterEqual(number_of(top_of(ring, sent_by(ring, list(ways)))[0]), shown)

    def test_what_is_handed_in_stays(self):
        ring = plain_ring(5, [(0, 3, 1), (1, 2, 4)])
        for cut in every_cut(ring):
            told_anew(self, across, (ring, cut))
            told_anew(self, shown_by, (ring, cut))
            told_anew(self, is_cut, (ring, cut))


class AllCuts(unittest.TestCase):
    def test_all_of_all_rings(self):
        for places in range(2, 13):
            ring = plain_ring(places, [])
            answer = all_cuts(ring)
            self.assertIs(type(answer), list)
            self.assertEqual(answer, every_cut(ring))
            self.assertEqual([type(cut) for cut in answer], [tuple] * len(answer))
        self.assertEqual(all_cuts(plain_ring(2, [])), [(0, 0), (0, 1), (1, 1)])
        self.assertEqual(all_cuts(plain_ring(3, [])), [(0, 0), (0, 1), (0, 2), (1, 1), (1, 2), (2, 2)])

    def test_those_that_part_two_places(self):
        for places in range(2, 13):
            ring = plain_ring(places, [])
            for one, other in itertools.permutations(range(places), 2):
                answer = cuts_apart(ring, one, other)
                self.assertIs(type(answer), list)
                asked = [cut for cut in every_cut(ring) if (cut[0] < one <= cut[1]) != (cut[0] < other <= cut[1])]
                self.assertEqual(answer, asked, (places, one, other))
                self.assertEqual([type(cut) for cut in answer], [tuple] * len(answer))
        self.assertEqual(cuts_apart(plain_ring(2, []), 0, 1), [(0, 1)])
        self.assertEqual(cuts_apart(plain_ring(4, []), 3, 1), [(0, 1), (0, 2), (1, 3), (2, 3)])

    def test_the_greatest(self):
        for ring in many_rings() + long_rings() + full_rings(6):
            answer = greatest_cut(ring)
            self.assertIs(type(answer), tuple)
            shown = [shown_number(ring, cut) for cut in every_cut(ring)]
            cut = every_cut(ring)[shown.index(max(shown))]
            self.assertEqual(answer, (told(max(shown)), cut))
            self.assertIs(type(answer[1]), tuple)

    def test_the_first_of_several_alike(self):
        self.assertEqual(greatest_cut(plain_ring(5, [(1, 3, 4)])), ((2, 1), (0, 1)))
        self.assertEqual(greatest_cut(plain_ring(5, [(2, 4, 4)])), ((2, 1), (0, 2)))
        self.assertEqual(greatest_cut(plain_ring(5, [(2, 3, 4)])), ((2, 1), (0, 2)))
        self.assertEqual(greatest_cut(plain_ring(4, [(0, 2, 1), (1, 3, 1)])), ((1, 1), (0, 2)))

    def test_rooms_count(self):
        ring = ([(9, 1), (1, 1), (9, 1), (2, 1)], [("a", 0, 2, (3, 1))])
        self.assertEqual(greatest_cut(ring), ((1, 1), (1, 3)))

    def test_no_asks_and_sizes_of_nought(self):
        for places in range(2, 13):
            self.assertEqual(greatest_cut(plain_ring(places, [])), ((0, 1), (0, 0)))
        self.assertEqual(greatest_cut(plain_ring(4, [(0, 2, 0), (3, 1, 0)])), ((0, 1), (0, 0)))

    def test_lists_are_the_askers_own(self):
        for ring in many_rings()[::17]:
            told_anew(self, all_cuts, (ring,))
            told_anew(self, greatest_cut, (ring,))
            told_anew(self, cuts_apart, (ring, 0, 1))
            no_list_shared(self, all_cuts(ring), all_cuts(ring), cuts_apart(ring, 0, 1), cuts_apart(ring, 0, 1))
