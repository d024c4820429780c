"""[6.2], [6.3], [6.4], [0.4] Slides, done one behind the other, and slides told for a sending."""

import itertools
import random
import unittest
from fractions import Fraction

from ringloads.errors import LoadError, NoSlide
from ringloads.slides import slid_by, slides_for
from tests.samples import (
    all_cross, crossing_ring, full_rings, has_form_of_ratio, is_sending_to_the_kind, is_way_to_the_kind, load_numbers,
    long_rings, long_sending, many_rings, no_list_shared, number_of, odd_things, parted_by_hand, parted_sending,
    plain_ring, small_ratio, small_rings, some_sending, spoilings, told, told_anew, walked,
)

LITTLE = Fraction(1, 10 ** 9)


def is_ask_number(ring, thing):
    return type(thing) is int and 0 <= thing < len(ring[1])


def not_by(ring, sending, k, way):
    """What of ask k does not go by a way."""
    part = number_of(sending[k])
    return number_of(ring[1][k][3]) - part if way == "on" else part


def is_slide_by_hand(ring, sending, thing):
    """Whether a thing is a slide of the sending, to the kinds and forms."""
    if type(thing) is not tuple or len(thing) != 5:
        return False
    k, way, l, other, amount = thing
    if not is_ask_number(ring, k) or not is_ask_number(ring, l) or k == l:
        return False
    if not is_way_to_the_kind(way) or not is_way_to_the_kind(other) or not has_form_of_ratio(amount):
        return False
    if set(walked(ring, k, way)) & set(walked(ring, l, other)):
        return False
    return 0 < number_of(amount) <= min(not_by(ring, sending, k, way), not_by(ring, sending, l, other))


def slid_by_hand(sending, slide):
    slid = list(sending)
    for k, way in (slide[0:2], slide[2:4]):
        by = number_of(slide[4])
        slid[k] = told(number_of(slid[k]) + (by if way == "on" else -by))
    return slid


def some_slide(chance, ring, sending):
    """A slide drawn by chance, or None where chance finds none."""
    for step in range(30):
        k, l = chance.sample(range(len(ring[1])), 2)
        way, other = chance.choice(["on", "back"]), chance.choice(["on", "back"])
        most = min(not_by(ring, sending, k, way), not_by(ring, sending, l, other))
        slide = (k, way, l, other, told(most * chance.choice([1, Fraction(1, 2), Fraction(1, 3)])))
        if is_slide_by_hand(ring, sending, slide):
            return slide
    return None


def some_slides(chance, ring, sending, many):
    """Slides one behind the other, and the sending behind them."""
    slides = []
    for step in range(many):
        slide = some_slide(chance, ring, sending)
        if slide is not None:
            slides.append(slide)
            sending = slid_by_hand(sending, slide)
    return slides, sending


class Slides(unittest.TestCase):
    def refused(self, ring, sending, thing, number):
        with self.assertRaises(NoSlide) as caught:
            slid_by(ring, sending, thing)
        self.assertIsInstance(caught.exception, LoadError)
        if number is None:
            self.assertIsNone(caught.exception.number, thing)
        else:
            self.assertIs(type(caught.exception.number), int)
            self.assertEqual(caught.exception.number, number, thing)

    def check_one(self, ring, sending, thing):
        """Check a list of one thing against the point's words; tell whether it slides."""
        if not is_slide_by_hand(ring, sending, thing):
            self.refused(ring, sending, [thing], 0)
            return False
        self.assertEqual(slid_by(ring, sending, [thing]), slid_by_hand(sending, thing))
        return True

    def check_told(self, ring, sending):
        """Check the slides told for a sending; give back the sending behind them."""
        slides = slides_for(ring, sending)
        self.assertIs(type(slides), list)
        slid = list(sending)
        for slide in slides:
            self.assertTrue(is_slide_by_hand(ring, slid, slide), (ring, sending, slides))
            slid = slid_by_hand(slid, slide)
        self.assertEqual(slid_by(ring, sending, slides), slid)
        parted = parted_by_hand(ring, sending)
        self.assertLessEqual(len(slides), len(parted))
        self.assertEqual(slides == [], all_cross(ring, parted))
        self.assertTrue(all_cross(ring, parted_by_hand(ring, slid)))
        self.assert_no_load_greater(ring, sending, slid)
        return slid

    def assert_no_load_greater(self, ring, sending, slid):
        for load, was in zip(load_numbers(ring, slid), load_numbers(ring, sending)):
            self.assertLessEqual(load, was)


class SlidBy(Slides):
    def test_many_slides(self):
        chance = random.Random(63)
        for ring in many_rings() + full_rings(10) + long_rings():
            sending = some_sending(chance, ring)
            slides, asked = some_slides(chance, ring, sending, 6 if len(ring[1]) > 1 else 0)
            answer = slid_by(ring, sending, slides)
            self.assertEqual(answer, asked)
            self.assertTrue(is_sending_to_the_kind(ring, answer))
            self.assert_no_load_greater(ring, sending, answer)

    def test_no_slides(self):
        for ring in many_rings()[::5]:
            sending = some_sending(random.Random(1), ring)
            self.assertEqual(slid_by(ring, sending, []), sending)
        self.assertEqual(slid_by(plain_ring(2, []), [], []), [])

    def test_all_asks_and_ways(self):
        chance = random.Random(66)
        slid = 0
        for ring in small_rings(60):
            sending = some_sending(chance, ring)
            asks = range(len(ring[1]))
            for k, way, l, other in itertools.product(asks, ["on", "back"], asks, ["on", "back"]):
                most = min(not_by(ring, sending, k, way), not_by(ring, sending, l, other))
                for amount in (most, most + LITTLE, most - LITTLE, most / 2, Fraction(0), -most, -LITTLE):
                    slid += self.check_one(ring, sending, (k, way, l, other, told(amount)))
        self.assertGreater(slid, 500)

    def test_amounts_that_are_just_right_and_a_little_more(self):
        ring = plain_ring(6, [(0, 2, 4), (5, 3, 6)])
        sending = [(1, 1), (4, 1)]
        # Only these two ways share no tie. 3 of the first ask do not go on; of the second 4 do not go back.
        for slide in ((0, "on", 1, "back"), (1, "back", 0, "on")):
            self.assertTrue(self.check_one(ring, sending, slide + ((3, 1),)))
            self.assertFalse(self.check_one(ring, sending, slide + (told(3 + LITTLE),)))
            self.assertTrue(self.check_one(ring, [(0, 1), (2, 1)], slide + ((2, 1),)))
            self.assertFalse(self.check_one(ring, [(0, 1), (2, 1)], slide + (told(2 + LITTLE),)))
            self.assertFalse(self.check_one(ring, sending, slide + ((0, 1),)))
        self.assertEqual(slid_by(ring, sending, [(0, "on", 1, "back", (3, 1))]), [(4, 1), (1, 1)])
        self.assertEqual(slid_by(ring, sending, [(1, "back", 0, "on", (1, 2))]), [(3, 2), (7, 2)])

    def test_a_whole_ask_may_get_parted(self):
        ring = plain_ring(6, [(0, 2, 4), (5, 3, 6)])
        self.assertEqual(slid_by(ring, [(0, 1), (6, 1)], [(0, "on", 1, "back", (1, 1))]), [(1, 1), (5, 1)])

    def test_asks_between_the_same_places(self):
        ring = plain_ring(5, [(1, 3, 2), (1, 3, 2), (3, 1, 2)])
        sending = [(1, 1), (1, 1), (1, 1)]
        for k, way, l, other in itertools.product(range(3), ["on", "back"], range(3), ["on", "back"]):
            self.check_one(ring, sending, (k, way, l, other, (1, 1)))
        self.assertEqual(slid_by(ring, sending, [(0, "on", 1, "back", (1, 1))]), [(2, 1), (0, 1), (1, 1)])
        self.assertEqual(slid_by(ring, sending, [(0, "on", 2, "on", (1, 1))]), [(2, 1), (1, 1), (2, 1)])
        self.refused(ring, sending, [(0, "on", 1, "on", (1, 1))], 0)
        self.refused(ring, sending, [(0, "on", 2, "back", (1, 1))], 0)

    def test_crossing_asks_do_not_slide(self):
        ring = plain_ring(4, [(0, 2, 2), (1, 3, 2)])
        for way, other in itertools.product(["on", "back"], repeat=2):
            self.refused(ring, [(1, 1), (1, 1)], [(0, way, 1, other, (1, 2))], 0)

    def test_a_slide_by_two_ways_of_one_ask(self):
        ring = plain_ring(4, [(0, 2, 2), (1, 2, 2)])
        for k, way, other in itertools.product(range(2), ["on", "back"], ["on", "back"]):
            self.refused(ring, [(1, 1), (1, 1)], [(k, way, k, other, (1, 2))], 0)

    def test_what_is_no_list(self):
        ring = plain_ring(6, [(0, 2, 4), (5, 3, 6)])
        sending = [(1, 1), (4, 1)]
        slide = (0, "on", 1, "back", (1, 1))
        for thing in odd_things():
            if type(thing) is not list:
                self.refused(ring, sending, thing, None)
            elif thing:
                self.refused(ring, sending, thing, 0)
            else:
                self.assertEqual(slid_by(ring, sending, thing), sending)
        for thing in ((slide,), slide, {0: slide}, {slide}, {slide: True}, iter([slide])):
            self.refused(ring, sending, thing, None)

    def test_one_thing_spoilt_at_each_place(self):
        ring = plain_ring(6, [(0, 2, 4), (5, 3, 6), (0, 1, 9)])
        for sending in ([(1, 1), (4, 1), (2, 1)], [(0, 1), (6, 1), (9, 1)]):
            for slide in ((0, "on", 1, "back", (1, 1)), (1, "back", 0, "on", (1, 2))):
                self.assertTrue(self.check_one(ring, sending, slide))
                for thing in spoilings(slide):
                    self.check_one(ring, sending, thing)

    def test_forms_that_look_right(self):
        ring = plain_ring(6, [(0, 2, 4), (5, 3, 6)])
        sending = [(1, 1), (4, 1)]
        wrong = [
            [0, "on", 1, "back", (1, 1)], (0, "on", 1, "back", [1, 1]), (0, "on", True, "back", (1, 1)),
            (False, "on", 1, "back", (1, 1)), (0, "on", 1, "back", (2, 2)), (0, "on", 1, "back", (-1, -1)),
            (0, "on", 1, "back", 1), (0, "on", 1, "back"), (0, "on", 1, "back", (1, 1), None), (0, "on", -1, "back", (1, 1)),
            (-2, "on", 1, "back", (1, 1)), (0, "on", 2, "back", (1, 1)), (2, "on", 1, "back", (1, 1)),
            (0, "on", 1, "back", (0, 1)), (0, "on", 1, "back", (-1, 1)), (0, None, 1, "back", (1, 1)),
            (0, "on", 1, ["back"], (1, 1)), (0, "on", 1, "on", (1, 1)), (0, ("on",), 1, "back", (1, 1)),
        ]
        for thing in wrong:
            self.refused(ring, sending, [thing], 0)

    def test_the_number_of_the_first_wrong_one(self):
        ring = plain_ring(6, [(0, 2, 4), (5, 3, 6)])
        sending = [(1, 1), (4, 1)]
        slide = (0, "on", 1, "back", (1, 1))
        # Three of these can be done one behind the other: then the first ask goes on as a whole.
        for many in range(4):
            self.assertEqual(slid_by(ring, sending, [slide] * many), [(1 + many, 1), (4 - many, 1)])
            for wrong in (None, (), "on", (0, "on", 1, "back", (0, 1)), (0, "on", 1, "back", (4, 1)), [slide]):
                for behind in ([], [slide], [None], [wrong, wrong]):
                    self.refused(ring, sending, [slide] * many + [wrong] + behind, many)
        for many in (4, 5, 9):
            self.refused(ring, sending, [slide] * many, 3)

    def test_a_slide_stands_behind_those_ahead_of_it(self):
        ring = plain_ring(6, [(0, 2, 4), (5, 3, 6)])
        sending = [(4, 1), (0, 1)]
        away = (0, "on", 1, "back", (1, 1))
        self.refused(ring, sending, [away], 0)
        back = plain_ring(6, [(0, 2, 4), (0, 2, 4)])
        there = (0, "back", 1, "on", (2, 1))
        here = (0, "on", 1, "back", (2, 1))
        self.refused(back, [(4, 1), (0, 1)], [here], 0)
        self.assertEqual(slid_by(back, [(4, 1), (0, 1)], [there, here]), [(4, 1), (0, 1)])
        self.refused(back, [(4, 1), (0, 1)], [there, here, here], 2)

    def test_what_is_handed_in_stays(self):
        chance = random.Random(65)
        for ring in many_rings()[::7]:
            sending = some_sending(chance, ring)
            slides = some_slides(chance, ring, sending, 3 if len(ring[1]) > 1 else 0)[0]
            answer = told_anew(self, slid_by, (ring, sending, slides))
            no_list_shared(self, answer, sending)
        self.assertIsNot(slid_by(ring, sending, []), sending)

    def test_what_is_refused_changes_nothing(self):
        ring = plain_ring(6, [(0, 2, 4), (5, 3, 6)])
        sending = [(1, 1), (4, 1)]
        slides = [(0, "on", 1, "back", (1, 1)), None]
        self.refused(ring, sending, slides, 1)
        self.assertEqual(sending, [(1, 1), (4, 1)])
        self.assertEqual(slides, [(0, "on", 1, "back", (1, 1)), None])
        self.assertEqual(ring, plain_ring(6, [(0, 2, 4), (5, 3, 6)]))


class SlidesFor(Slides):
    def test_many_sendings(self):
        chance = random.Random(67)
        for ring in many_rings():
            self.check_told(ring, some_sending(chance, ring))
            self.check_told(ring, parted_sending(chance, ring))

    def test_full_rings(self):
        chance = random.Random(68)
        for ring in full_rings(40):
            self.check_told(ring, some_sending(chance, ring))
            self.check_told(ring, parted_sending(chance, ring))

    def test_sixty_figures(self):
        chance = random.Random(69)
        for ring in long_rings():
            self.check_told(ring, long_sending(chance, ring))
            self.check_told(ring, parted_sending(chance, ring))

    def test_no_parted_ask_and_one(self):
        for ring in small_rings(80):
            for ways in itertools.product([True, False], repeat=len(ring[1])):
                sending = [ask[3] if way else (0, 1) for ask, way in zip(ring[1], ways)]
                self.assertEqual(slides_for(ring, sending), [])
                for k, ask in enumerate(ring[1]):
                    one = list(sending)
                    one[k] = told(number_of(ask[3]) / 2)
                    self.assertEqual(slides_for(ring, one), [])

    def test_all_that_cross(self):
        chance = random.Random(610)
        for asks in range(1, 7):
            for step in range(10):
                ring = crossing_ring(chance, 12, asks, small_ratio)
                self.assertEqual(slides_for(ring, parted_sending(chance, ring)), [])
        self.assertEqual(slides_for(plain_ring(4, [(0, 2, 2), (3, 1, 2)]), [(1, 1), (1, 1)]), [])

    def test_two_side_by_side(self):
        ring = plain_ring(6, [(0, 2, 4), (5, 3, 6)])
        slid = self.check_told(ring, [(1, 1), (4, 1)])
        self.assertEqual(slid, [(4, 1), (1, 1)])
        same = plain_ring(6, [(0, 2, 4), (0, 2, 4), (2, 0, 4)])
        self.assertLessEqual(len(parted_by_hand(same, self.check_told(same, [(1, 1), (1, 1), (1, 1)]))), 1)
        self.assertLessEqual(len(parted_by_hand(same, self.check_told(same, [(2, 1), (2, 1), (2, 1)]))), 1)

    def test_two_and_three_places(self):
        chance = random.Random(611)
        for places in (2, 3):
            for step in range(30):
                asks = [chance.sample(range(places), 2) + [chance.randint(0, 3)] for k in range(chance.randint(0, 20))]
                ring = plain_ring(places, asks)
                slid = self.check_told(ring, parted_sending(chance, ring))
                self.assertLessEqual(len(parted_by_hand(ring, slid)), 1)

    def test_what_is_handed_in_stays(self):
        chance = random.Random(612)
        for ring in many_rings()[::7]:
            sending = parted_sending(chance, ring)
            answer = told_anew(self, slides_for, (ring, sending))
            no_list_shared(self, answer, sending)
