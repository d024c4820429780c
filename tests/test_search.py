"""[9.1], [0.4] Ways that keep a wish, or a tree for it."""

import random
import unittest
from fractions import Fraction

from ringloads.errors import LoadError, TooMany
from ringloads.search import ways_for
from ringloads.trees import counted_in, look_at_tree
from ringloads.wishes import broken_wish
from tests.by_hand import all_ways, best_number, broken_by_hand, first_wrong, some_wish
from tests.samples import (
    are_ways_to_the_kind, long_ratio, most_shown, no_list_shared, plain_ring, small_ratio, small_rings, some_ring, told,
    told_anew, top_number, unit_room, whole_ratio, whole_sending,
)

LITTLE = Fraction(1, 10 ** 9)


def rings_of_seven(many):
    """Rings of up to seven asks and twelve places."""
    chance = random.Random(97)
    drawers = (small_ratio, whole_ratio, unit_room)
    return [some_ring(chance, chance.randint(2, 12), 7 - number % 3, drawers[number % 3]) for number in range(many)]


class WaysFor(unittest.TestCase):
    def check(self, ring, wish):
        answer = ways_for(ring, wish)
        self.assertIs(type(answer), tuple)
        self.assertEqual(len(answer), 2)
        if answer[0] == "ways":
            self.assertTrue(are_ways_to_the_kind(ring, answer[1]))
            self.assertIsNone(broken_by_hand(ring, wish, answer[1]), (ring, wish, answer))
            self.assertIsNone(broken_wish(ring, wish, answer[1]))
        else:
            self.assertEqual(answer[0], "none")
            self.assertIsNone(first_wrong(ring, wish, answer[1]), (ring, wish, answer))
            self.assertIsNone(look_at_tree(ring, wish, answer[1]))
            self.assertLessEqual(sum(counted_in(answer[1])), 300)
        return answer

    def check_all(self, ring, wish):
        """Check also against all ways, gone through one by one."""
        kept = [ways for ways in all_ways(ring) if broken_by_hand(ring, wish, ways) is None]
        self.assertEqual(self.check(ring, wish)[0], "ways" if kept else "none", (ring, wish))

    def test_many_wishes_of_small_rings(self):
        chance = random.Random(91)
        for ring in small_rings(120):
            tops = [top_number(ring, whole_sending(ring, ways)) for ways in all_ways(ring)]
            for step in range(8):
                self.check_all(ring, some_wish(chance, ring, tops + [min(tops)] * 4 + [Fraction(0), most_shown(ring)]))

    def test_rings_of_up_to_seven_asks(self):
        chance = random.Random(92)
        for ring in rings_of_seven(24):
            best = best_number(ring)
            for top in (best, best + LITTLE, max(best - LITTLE, 0)):
                for strict in (True, False):
                    wish = (told(top), strict, [None] * len(ring[1]), 0)
                    asked = "ways" if top > best or top == best and not strict else "none"
                    self.assertEqual(self.check(ring, wish)[0], asked)
            for step in range(3):
                self.check_all(ring, some_wish(chance, ring, [best, best * 2]))

    def test_few_turned(self):
        chance = random.Random(93)
        for ring in small_rings(60):
            best = best_number(ring)
            for elder in ([chance.choice(["on", "back"]) for ask in ring[1]], ["on"] * len(ring[1])):
                for most in range(len(ring[1]) + 1):
                    self.check_all(ring, (told(best), False, elder, most))
                    self.check_all(ring, (told(best), True, elder, most))

    def test_most_nought_leaves_the_elder_ways(self):
        ring = plain_ring(6, [(0, 3, 1), (1, 4, 2), (2, 5, 3), (5, 0, 1)])
        for elder in all_ways(ring):
            top = top_number(ring, whole_sending(ring, elder))
            self.assertEqual(self.check(ring, (told(top), False, elder, 0)), ("ways", elder))
            self.assertEqual(self.check(ring, (told(top), True, elder, 0))[0], "none")

    def test_elders_of_some_asks(self):
        ring = plain_ring(4, [(0, 2, 1), (0, 2, 1)])
        self.assertEqual(self.check(ring, ((1, 1), False, ["back", None], 0)), ("ways", ["back", "on"]))
        self.assertEqual(self.check(ring, ((1, 1), False, ["back", "back"], 0))[0], "none")
        self.assertEqual(self.check(ring, ((1, 1), False, ["back", "back"], 1))[0], "ways")
        self.assertEqual(self.check(ring, ((1, 1), False, [None, None], 0))[0], "ways")

    def test_no_asks(self):
        for places in (2, 12):
            ring = plain_ring(places, [])
            self.assertEqual(self.check(ring, ((0, 1), False, [], 0)), ("ways", []))
            self.assertEqual(self.check(ring, ((0, 1), True, [], 20))[0], "none")
            self.assertEqual(self.check(ring, ((1, 9), True, [], 0)), ("ways", []))

    def test_a_wish_that_takes_the_greatest_tree(self):
        # Each ask may be turned but one, and nothing is strained: most ways are broken at the last ask alone.
        ring = plain_ring(5, [(0, 1, 0)] * 7)
        for most in range(8):
            answer = self.check(ring, ((0, 1), True, ["on"] * 7, most))
            self.assertEqual(answer[0], "none")
        even = plain_ring(12, [(0, 6, 2)] * 7)
        self.assertEqual(self.check(even, ((7, 1), False, ["on"] * 7, 20))[0], "none")
        self.assertEqual(self.check(even, ((8, 1), True, ["on"] * 7, 20))[0], "none")
        self.assertEqual(self.check(even, ((8, 1), False, ["on"] * 7, 2))[0], "none")
        self.assertEqual(self.check(even, ((8, 1), False, ["on"] * 7, 3))[0], "ways")

    def test_sixty_figures(self):
        chance = random.Random(94)
        for places, asks in ((2, 7), (5, 4), (12, 7)):
            ring = some_ring(chance, places, asks, long_ratio)
            tops = [top_number(ring, whole_sending(ring, ways)) for ways in all_ways(ring)]
            for strict in (True, False):
                answer = self.check(ring, (told(min(tops)), strict, [None] * asks, 0))
                self.assertEqual(answer[0], "none" if strict else "ways")

    def test_more_than_seven_asks(self):
        for places in (2, 12):
            for asks in (6, 7):
                ring = plain_ring(places, [(0, 1, 1)] * asks)
                self.assertEqual(self.check(ring, ((20, 1), False, [None] * asks, 0))[0], "ways")
            for asks in (8, 9, 20):
                for top in ((0, 1), (20, 1)):
                    ring = plain_ring(places, [(0, 1, 1)] * asks)
                    with self.assertRaises(TooMany) as caught:
                        ways_for(ring, (top, False, [None] * asks, 0))
                    self.assertIsInstance(caught.exception, LoadError)

    def test_what_is_handed_in_stays(self):
        chance = random.Random(95)
        for ring in small_rings(30):
            wish = some_wish(chance, ring, [best_number(ring)])
            answer = told_anew(self, ways_for, (ring, wish))
            no_list_shared(self, answer, ring, wish)
        elder = ["on", "back"]
        ring = plain_ring(4, [(0, 2, 1), (0, 2, 1)])
        answer = ways_for(ring, ((1, 1), False, elder, 0))
        answer[1].clear()
        self.assertEqual(elder, ["on", "back"])
