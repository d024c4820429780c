"""[9.2], [9.3], [0.4] The best ways, with their tree."""

import random
import unittest
from fractions import Fraction

from ringloads.best import best_ways, lets_best
from ringloads.errors import TooMany
from ringloads.leasts import least_top
from tests.by_hand import all_ways, best_number, first_wrong, some_tree
from tests.samples import (
    are_ways_to_the_kind, full_rings, has_form_of_ratio, long_ratio, name_of, no_list_shared, number_of, odd_things,
    plain_ring, small_rings, some_ring, spoilings, told, told_anew, top_number, whole_sending,
)
from tests.test_search import rings_of_seven

LITTLE = Fraction(1, 10 ** 9)


def wish_for(ring, top):
    return (top, True, [None for ask in ring[1]], 0)


def is_best_by_hand(ring, thing):
    """Whether a thing is a best top with its ways and its tree, to the kinds and forms."""
    if type(thing) is not tuple or len(thing) != 3 or not has_form_of_ratio(thing[0]):
        return False
    if not are_ways_to_the_kind(ring, thing[1]):
        return False
    if top_number(ring, whole_sending(ring, thing[1])) != number_of(thing[0]):
        return False
    return first_wrong(ring, wish_for(ring, thing[0]), thing[2]) is None


class BestWays(unittest.TestCase):
    def check(self, ring):
        answer = best_ways(ring)
        self.assertTrue(is_best_by_hand(ring, answer), (ring, answer))
        self.assertIs(lets_best(ring, answer), True)
        self.assertEqual(number_of(answer[0]), best_number(ring))
        self.check_beside_least(ring, number_of(answer[0]))
        return answer

    def check_beside_least(self, ring, best):
        least = number_of(least_top(ring)[0])
        greatest = max([number_of(ask[3]) for ask in ring[1]], default=Fraction(0))
        room = min([number_of(room) for room in ring[0]])
        self.assertLessEqual(least, best)
        self.assertLessEqual(best, least + Fraction(3, 2) * greatest / room)

    def test_small_rings(self):
        for ring in small_rings(200):
            self.check(ring)

    def test_rings_of_up_to_seven_asks(self):
        for ring in rings_of_seven(45):
            self.check(ring)

    def test_sixty_figures(self):
        chance = random.Random(96)
        for places, asks in ((2, 7), (5, 4), (12, 7)):
            self.check(some_ring(chance, places, asks, long_ratio))

    def test_no_asks_and_asks_of_nought(self):
        for places in range(2, 13):
            self.assertEqual(self.check(plain_ring(places, []))[:2], ((0, 1), []))
            self.assertEqual(self.check(plain_ring(places, [(0, 1, 0)] * 7))[0], (0, 1))

    def test_examples(self):
        self.assertEqual(self.check(plain_ring(4, [(0, 2, 1), (1, 3, 1)]))[0], (2, 1))
        self.assertEqual(self.check(plain_ring(2, [(0, 1, 3), (1, 0, 3), (0, 1, 2), (0, 1, 2), (0, 1, 2)]))[0], (6, 1))
        self.assertEqual(self.check(plain_ring(2, [(0, 1, 2)] * 7))[0], (8, 1))
        self.assertEqual(self.check(([(1, 1), (5, 1)], [("a", 0, 1, (4, 1))]))[:2], ((4, 5), ["back"]))

    def test_more_than_seven_asks(self):
        for places in (2, 12):
            self.check(plain_ring(places, [(0, 1, 1)] * 7))
            for asks in (8, 9, 20):
                with self.assertRaises(TooMany):
                    best_ways(plain_ring(places, [(0, 1, 1)] * asks))
        for ring in full_rings(3):
            with self.assertRaises(TooMany):
                best_ways(ring)

    def test_what_is_handed_in_stays(self):
        for ring in small_rings(30):
            answer = told_anew(self, best_ways, (ring,))
            no_list_shared(self, answer, ring)
            told_anew(self, lets_best, (ring, answer))


class LetsBest(unittest.TestCase):
    def check(self, ring, thing):
        asked = is_best_by_hand(ring, thing)
        self.assertIs(lets_best(ring, thing), asked, (ring, thing))
        return asked

    def test_whoever_wrote_it(self):
        chance = random.Random(98)
        let_by = 0
        for ring in small_rings(80):
            best = best_number(ring)
            for ways in all_ways(ring)[::3] + [best_ways(ring)[1]]:
                top = told(top_number(ring, whole_sending(ring, ways)))
                for step in range(2):
                    thing = (top, ways, some_tree(chance, ring, wish_for(ring, top)))
                    if self.check(ring, thing):
                        let_by += 1
                        self.assertEqual(number_of(top), best)
        self.assertGreater(let_by, 100)

    def test_one_thing_spoilt_at_each_place(self):
        for ring in small_rings(12) + [plain_ring(4, [(0, 2, 1), (1, 3, 1)]), plain_ring(2, [])]:
            for thing in spoilings(best_ways(ring)):
                self.check(ring, thing)

    def test_things_of_other_kinds(self):
        ring = plain_ring(4, [(0, 2, 1), (1, 3, 1)])
        right = best_ways(ring)
        self.assertIs(lets_best(ring, right), True)
        for thing in odd_things():
            self.assertIs(lets_best(ring, thing), False, repr(thing))
            for number in range(3):
                self.assertIs(lets_best(ring, right[:number] + (thing,) + right[number + 1:]), False, repr(thing))
        wrong = [
            list(right), right[:2], right + (None,), (2, right[1], right[2]), ((4, 2), right[1], right[2]),
            (right[0], tuple(right[1]), right[2]), (right[0], right[1][:1], right[2]), (right[0], right[1], list(right[2])),
            (right[0], right[1], None), (right[1], right[0], right[2]), ((1, 1), right[1], right[2]),
        ]
        for thing in wrong:
            self.assertIs(lets_best(ring, thing), False, thing)

    def test_a_top_that_is_not_that_of_the_ways(self):
        for ring in small_rings(40):
            top, ways, tree = best_ways(ring)
            for change in (LITTLE, -LITTLE):
                self.assertIs(lets_best(ring, (told(number_of(top) + change), ways, tree)), False)

    def test_ways_that_are_not_the_best(self):
        ring = plain_ring(2, [(0, 1, 1), (0, 1, 1)])
        self.assertIs(lets_best(ring, ((1, 1), ["on", "back"], ("cut", 0, 1))), True)
        self.assertIs(lets_best(ring, ((1, 1), ["back", "on"], ("cut", 0, 1))), True)
        self.assertIs(lets_best(ring, ((2, 1), ["on", "on"], ("cut", 0, 1))), False)
        self.assertIs(lets_best(ring, ((1, 1), ["on", "on"], ("cut", 0, 1))), False)
        deep = ("split", 1, ("cut", 0, 1), ("split", 0, ("cut", 0, 1), ("cut", 0, 1)))
        self.assertIs(lets_best(ring, ((1, 1), ["on", "back"], deep)), True)

    def test_no_ask_is_turned(self):
        # The wish has None alone in elder: a turned never stands.
        ring = plain_ring(2, [(0, 1, 1), (0, 1, 1)])
        self.assertIs(lets_best(ring, ((1, 1), ["on", "back"], ("turned",))), False)
        tree = ("split", 0, ("turned",), ("turned",))
        self.assertIs(lets_best(ring, ((1, 1), ["on", "back"], tree)), False)

    def test_rings_of_more_than_seven_asks(self):
        for asks in range(8, 21):
            ring = plain_ring(2, [(k % 2, 1 - k % 2, 1) for k in range(asks)])
            half = (asks + 1) // 2
            # As many go over the one tie as over the other: every other ask is told the other way round.
            ways = [["on", "back"][(k % 2 == 0) != (k < half)] for k in range(asks)]
            top = (half, 1)
            tree = ("cut", 0, 1)
            self.assertIs(lets_best(ring, (top, ways, tree)), asks % 2 == 0)
            self.assertIs(lets_best(ring, (top, ["on"] * asks, tree)), asks % 2 == 0)
            self.assertIs(lets_best(ring, ((asks, 1), [["on", "back"][k % 2] for k in range(asks)], tree)), False)

    def test_twenty_asks_of_which_most_are_nought(self):
        for ring in rings_of_seven(12):
            top, ways, tree = best_ways(ring)
            places = len(ring[0])
            more = [("z" + name_of(k), k % places, (k + 1) % places, (0, 1)) for k in range(20 - len(ring[1]))]
            fuller = (ring[0], ring[1] + more)
            self.assertEqual(len(fuller[1]), 20)
            self.assertIs(lets_best(fuller, (top, ways + ["back"] * len(more), tree)), True)
            self.assertIs(lets_best(fuller, (top, ways, tree)), False)
            self.assertIs(lets_best(fuller, (top, ways + ["back"] * (len(more) - 1) + [None], tree)), False)
