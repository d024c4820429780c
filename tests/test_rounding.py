"""[7.1], [7.2], [7.4], [0.4] Roundings of sendings, and a near whole sending of a ring."""

import itertools
import random
import unittest
from fractions import Fraction

from ringloads.gains import gains_of
from ringloads.leasts import lets_least
from ringloads.rounding import lets_rounding, near_whole, rounding_of
from tests.samples import (
    all_cross, are_ways_to_the_kind, crossing_ring, full_rings, has_form_of_ratio, long_rings, long_sending, many_rings,
    most_shown, no_list_shared, number_of, odd_things, parted_by_hand, parted_sending, plain_ring, small_ratio,
    small_rings, some_sending, spoilings, told, told_anew, top_number, whole_ratio, whole_sending,
)
from tests.test_slides import is_slide_by_hand, slid_by_hand

LITTLE = Fraction(1, 10 ** 9)


def behind(ring, sending, thing):
    """The sending behind slides, None where it is no list of slides."""
    if type(thing) is not list:
        return None
    for slide in thing:
        if not is_slide_by_hand(ring, sending, slide):
            return None
        sending = slid_by_hand(sending, slide)
    return sending


def gain_by_hand(ring, slid, k, way):
    """By how much more of ask k goes by rising numbers when it goes whole by a way."""
    name, one, other, size = ring[1][k]
    size = number_of(size)
    on = number_of(slid[k])
    goes_on = size if way == "on" else Fraction(0)
    if one < other:
        return goes_on - on
    return (size - goes_on) - (size - on)


def sums_by_hand(ring, slid, ways):
    """The sums of the first so many gains, and half of the greatest size."""
    parted = parted_by_hand(ring, slid)
    parted = sorted(parted, key=lambda k: min(ring[1][k][1:3]))
    gains = [gain_by_hand(ring, slid, k, ways[k]) for k in parted]
    half = max([number_of(ring[1][k][3]) for k in parted], default=Fraction(0)) / 2
    return [sum(gains[:many]) for many in range(1, len(gains) + 1)], half


def is_rounding_by_hand(ring, sending, thing):
    """Whether a thing is a rounding of the sending, to the kinds and forms."""
    if type(thing) is not tuple or len(thing) != 2:
        return False
    slid = behind(ring, sending, thing[0])
    if slid is None or not are_ways_to_the_kind(ring, thing[1]):
        return False
    parted = parted_by_hand(ring, slid)
    if not all_cross(ring, parted):
        return False
    for k, ask in enumerate(ring[1]):
        if k not in parted and ask[3] != (0, 1) and slid[k] != (ask[3] if thing[1][k] == "on" else (0, 1)):
            return False
    sums, half = sums_by_hand(ring, slid, thing[1])
    return all([-half <= one <= half for one in sums])


class Rounding(unittest.TestCase):
    def check_bound(self, ring, sending, rounding):
        """Check that no tie gains more than three halves of the greatest size that is still parted."""
        slid = behind(ring, sending, rounding[0])
        parted = parted_by_hand(ring, slid)
        most = max([number_of(ring[1][k][3]) for k in parted], default=Fraction(0)) * Fraction(3, 2)
        for gain in gains_of(ring, sending, rounding[1]):
            self.assertLessEqual(number_of(gain), most, (ring, sending, rounding))

    def check_told(self, ring, sending):
        answer = rounding_of(ring, sending)
        self.assertTrue(is_rounding_by_hand(ring, sending, answer), (ring, sending, answer))
        self.assertIs(lets_rounding(ring, sending, answer), True)
        self.assertLessEqual(len(answer[0]), len(parted_by_hand(ring, sending)))
        self.check_bound(ring, sending, answer)
        return answer

    def check_verdict(self, ring, sending, thing):
        asked = is_rounding_by_hand(ring, sending, thing)
        self.assertIs(lets_rounding(ring, sending, thing), asked, (ring, sending, thing))
        if asked:
            self.check_bound(ring, sending, thing)
        return asked


class RoundingOf(Rounding):
    def test_many_sendings(self):
        chance = random.Random(72)
        for ring in many_rings():
            self.check_told(ring, some_sending(chance, ring))
            self.check_told(ring, parted_sending(chance, ring))

    def test_full_rings(self):
        chance = random.Random(721)
        for ring in full_rings(40):
            self.check_told(ring, some_sending(chance, ring))
            self.check_told(ring, parted_sending(chance, ring))

    def test_sixty_figures(self):
        chance = random.Random(722)
        for ring in long_rings():
            self.check_told(ring, long_sending(chance, ring))

    def test_asks_that_all_cross(self):
        chance = random.Random(723)
        for asks in range(1, 7):
            for step in range(40):
                ring = crossing_ring(chance, chance.randint(2 * asks, 12), asks, small_ratio)
                for sending in (parted_sending(chance, ring), [told(number_of(ask[3]) / 2) for ask in ring[1]]):
                    answer = self.check_told(ring, sending)
                    self.assertEqual(answer[0], [])

    def test_whole_sendings_stay(self):
        for ring in small_rings(60):
            for ways in itertools.product(["on", "back"], repeat=len(ring[1])):
                answer = self.check_told(ring, whole_sending(ring, ways))
                self.assertEqual(whole_sending(ring, answer[1]), whole_sending(ring, ways))
                self.assertEqual(answer[0], [])

    def test_no_asks(self):
        for places in range(2, 13):
            self.assertEqual(rounding_of(plain_ring(places, []), []), ([], []))

    def test_what_is_handed_in_stays(self):
        chance = random.Random(724)
        for ring in many_rings()[::7]:
            sending = parted_sending(chance, ring)
            answer = told_anew(self, rounding_of, (ring, sending))
            no_list_shared(self, answer, ring, sending)
            told_anew(self, lets_rounding, (ring, sending, answer))
            told_anew(self, lets_rounding, (ring, sending, (answer[0], [])))


class LetsRounding(Rounding):
    def test_all_ways_of_asks_that_all_cross(self):
        chance = random.Random(71)
        let_by = 0
        for asks in range(1, 6):
            for step in range(25):
                drawer = (small_ratio, whole_ratio)[step % 2]
                ring = crossing_ring(chance, chance.randint(2 * asks, 12), asks, drawer)
                for sending in (parted_sending(chance, ring), [told(number_of(ask[3]) / 2) for ask in ring[1]]):
                    for ways in itertools.product(["on", "back"], repeat=asks):
                        let_by += self.check_verdict(ring, sending, ([], list(ways)))
        self.assertGreater(let_by, 300)

    def test_all_ways_of_small_rings(self):
        chance = random.Random(711)
        for ring in small_rings(60):
            for sending in (some_sending(chance, ring), parted_sending(chance, ring)):
                slides = rounding_of(ring, sending)[0]
                for ways in itertools.product(["on", "back"], repeat=len(ring[1])):
                    for some in (slides, slides[:-1], []):
                        self.check_verdict(ring, sending, (some, list(ways)))

    def test_just_half_and_a_little_more(self):
        ring = plain_ring(4, [(0, 2, 2), (1, 3, 2)])
        half = [(1, 1), (1, 1)]
        for ways, asked in ((["on", "back"], True), (["back", "on"], True), (["on", "on"], False), (["back"] * 2, False)):
            self.assertIs(lets_rounding(ring, half, ([], ways)), asked)
        less = [told(1 - LITTLE), (1, 1)]
        self.assertIs(lets_rounding(ring, less, ([], ["on", "back"])), False)
        self.assertIs(lets_rounding(ring, less, ([], ["back", "on"])), True)
        more = [told(1 + LITTLE), (1, 1)]
        self.assertIs(lets_rounding(ring, more, ([], ["on", "back"])), True)
        self.assertIs(lets_rounding(ring, more, ([], ["back", "on"])), False)

    def test_sums_in_the_middle_and_at_the_end(self):
        ring = plain_ring(6, [(0, 3, 4), (1, 4, 2), (2, 5, 2)])
        # Half of the greatest size is 2. The gains are 1, then 1 or -1, then 1 or -1.
        sending = [(3, 1), (1, 1), (1, 1)]
        asked = {("on", "on", "on"): False, ("on", "on", "back"): True, ("on", "back", "on"): True,
                 ("on", "back", "back"): True, ("back", "on", "on"): False, ("back", "on", "back"): False}
        for ways in asked:
            self.assertIs(lets_rounding(ring, sending, ([], list(ways))), asked[ways], ways)
        # The sums are 1 and 2 + LITTLE and 0 + LITTLE: the one in the middle is too much.
        sending = [(3, 1), told(1 - LITTLE), told(2 - 2 * LITTLE)]
        self.assertIs(lets_rounding(ring, sending, ([], ["on", "on", "back"])), False)
        self.assertIs(lets_rounding(ring, sending, ([], ["on", "back", "on"])), True)

    def test_below_minus_the_half(self):
        ring = plain_ring(6, [(0, 3, 2), (1, 4, 2)])
        self.assertIs(lets_rounding(ring, [(1, 1), (1, 2)], ([], ["back", "on"])), True)
        self.assertIs(lets_rounding(ring, [(1, 1), (1, 2)], ([], ["back", "back"])), False)
        self.assertIs(lets_rounding(ring, [(1, 2), (1, 2)], ([], ["back", "back"])), True)
        self.assertIs(lets_rounding(ring, [(1, 2), told(Fraction(1, 2) + LITTLE)], ([], ["back", "back"])), False)

    def test_an_ask_told_from_a_greater_place_to_a_lesser_one(self):
        # By rising numbers the second ask goes back: 1 of 4 goes so.
        ring = plain_ring(6, [(0, 3, 4), (5, 2, 4)])
        sending = [(3, 1), (3, 1)]
        self.assertIs(lets_rounding(ring, sending, ([], ["on", "on"])), True)
        self.assertIs(lets_rounding(ring, sending, ([], ["on", "back"])), False)
        self.assertIs(lets_rounding(ring, [(3, 1), (1, 1)], ([], ["on", "back"])), True)
        self.assertIs(lets_rounding(ring, [(3, 1), (2, 1)], ([], ["on", "back"])), False)
        alone = plain_ring(6, [(5, 2, 4)])
        for part in range(1, 4):
            self.assertIs(lets_rounding(alone, [(part, 1)], ([], ["on"])), part >= 2)
            self.assertIs(lets_rounding(alone, [(part, 1)], ([], ["back"])), part <= 2)

    def test_the_order_is_that_of_the_lesser_places(self):
        # Told in another order than that of their lesser places; often the order of their numbers would tell otherwise.
        ring = plain_ring(6, [(4, 1, 4), (5, 2, 4), (0, 3, 3)])
        sending = [(2, 1), (3, 1), (1, 1)]
        for ways in itertools.product(["on", "back"], repeat=3):
            self.check_verdict(ring, sending, ([], list(ways)))
        chance = random.Random(712)
        unlike = 0
        for step in range(60):
            ring = crossing_ring(chance, 12, 5, whole_ratio)
            sending = parted_sending(chance, ring)
            for ways in itertools.product(["on", "back"], repeat=5):
                asked = self.check_verdict(ring, sending, ([], list(ways)))
                sums = list(itertools.accumulate([gain_by_hand(ring, sending, k, ways[k]) for k in range(5)]))
                half = max([number_of(ask[3]) for ask in ring[1]]) / 2
                unlike += asked != all([-half <= one <= half for one in sums])
        self.assertGreater(unlike, 20)

    def test_asks_that_are_not_parted_go_as_they_go(self):
        ring = plain_ring(6, [(0, 3, 4), (1, 2, 5), (2, 4, 0), (5, 1, 7)])
        sending = [(2, 1), (5, 1), (0, 1), (0, 1)]
        for ways in itertools.product(["on", "back"], repeat=4):
            asked = ways[1] == "on" and ways[3] == "back"
            self.assertIs(lets_rounding(ring, sending, ([], list(ways))), asked, ways)

    def test_only_parted_asks_count_for_the_greatest_size(self):
        ring = plain_ring(6, [(0, 3, 4), (1, 4, 100)])
        self.assertIs(lets_rounding(ring, [(1, 1), (100, 1)], ([], ["on", "on"])), False)
        self.assertIs(lets_rounding(ring, [(1, 1), (100, 1)], ([], ["back", "on"])), True)
        self.assertIs(lets_rounding(ring, [(1, 1), (50, 1)], ([], ["on", "back"])), True)

    def test_parted_asks_side_by_side(self):
        ring = plain_ring(6, [(0, 1, 4), (2, 3, 4)])
        for ways in itertools.product(["on", "back"], repeat=2):
            self.assertIs(lets_rounding(ring, [(2, 1), (2, 1)], ([], list(ways))), False)
        slide = (0, "on", 1, "on", (2, 1))
        self.assertIs(lets_rounding(ring, [(2, 1), (2, 1)], ([slide], ["on", "on"])), True)
        self.assertIs(lets_rounding(ring, [(2, 1), (2, 1)], ([slide], ["on", "back"])), False)

    def test_slides_that_are_none(self):
        ring = plain_ring(6, [(0, 1, 4), (2, 3, 4)])
        sending = [(2, 1), (1, 1)]
        wrong = [
            (0, "on", 1, "on", (3, 1)), (0, "back", 1, "back", (1, 1)), (0, "on", 1, "on", (0, 1)),
            (0, "on", 0, "on", (1, 1)), (0, "on", 1, "on", (4, 2)), None,
        ]
        for slide in wrong:
            for ways in itertools.product(["on", "back"], repeat=2):
                self.assertIs(lets_rounding(ring, sending, ([slide], list(ways))), False)
        good = (0, "on", 1, "on", (2, 1))
        self.assertIs(lets_rounding(ring, sending, ([good], ["on", "on"])), True)
        for slides in ((good,), good, {0: good}, [good, None], [[good]], [list(good)], None, "on", [good, good]):
            self.assertIs(lets_rounding(ring, sending, (slides, ["on", "on"])), False)

    def test_one_thing_spoilt_at_each_place(self):
        chance = random.Random(713)
        for ring in small_rings(20):
            sending = parted_sending(chance, ring)
            right = rounding_of(ring, sending)
            for thing in spoilings(right):
                self.check_verdict(ring, sending, thing)
        ring = plain_ring(6, [(0, 3, 4), (1, 2, 5), (2, 4, 0), (5, 1, 7)])
        for sending in ([(2, 1), (1, 1), (0, 1), (3, 1)], [(1, 1), (5, 1), (0, 1), (0, 1)]):
            right = rounding_of(ring, sending)
            for thing in spoilings(right):
                self.check_verdict(ring, sending, thing)

    def test_things_of_other_kinds(self):
        ring = plain_ring(6, [(0, 3, 4)])
        for thing in odd_things():
            self.assertIs(lets_rounding(ring, [(2, 1)], thing), False, repr(thing))
            self.check_verdict(ring, [(2, 1)], (thing, ["on"]))
            self.check_verdict(ring, [(2, 1)], ([], thing))
            self.check_verdict(ring, [(2, 1)], ([], [thing]))
        for thing in ([[], ["on"]], ([], ["on"], None), ([],), ([], ("on",)), ((), ["on"]), ([], "on"), ([], ["on"] * 2)):
            self.assertIs(lets_rounding(ring, [(2, 1)], thing), False, repr(thing))
        self.assertIs(lets_rounding(plain_ring(2, []), [], ([], [])), True)
        self.assertIs(lets_rounding(plain_ring(2, []), [], ([], ["on"])), False)


class NearWhole(Rounding):
    def check(self, ring):
        answer = near_whole(ring)
        self.assertIs(type(answer), tuple)
        self.assertEqual(len(answer), 4)
        ways, top, rounding, least = answer
        self.assertIs(lets_least(ring, least), True)
        self.assertEqual(number_of(least[0]), most_shown(ring))
        self.assertTrue(is_rounding_by_hand(ring, least[1], rounding), (ring, answer))
        self.assertLessEqual(len(rounding[0]), len(parted_by_hand(ring, least[1])))
        self.assertTrue(are_ways_to_the_kind(ring, ways))
        self.assertEqual(ways, rounding[1])
        self.assertTrue(has_form_of_ratio(top))
        self.assertEqual(number_of(top), top_number(ring, whole_sending(ring, ways)))
        self.check_bound(ring, least[1], rounding)
        no_list_shared(self, answer, ring)
        return answer

    def test_many_rings(self):
        for ring in many_rings() + small_rings(100):
            self.check(ring)

    def test_full_rings(self):
        for ring in full_rings(40):
            self.check(ring)

    def test_sixty_figures(self):
        for ring in long_rings():
            self.check(ring)

    def test_no_asks(self):
        for places in range(2, 13):
            answer = self.check(plain_ring(places, []))
            self.assertEqual(answer[:3], ([], (0, 1), ([], [])))

    def test_an_example(self):
        answer = self.check(plain_ring(4, [(0, 2, 1), (1, 3, 1)]))
        self.assertEqual(answer[1], (2, 1))

    def test_what_is_handed_in_stays(self):
        for ring in many_rings()[::13]:
            told_anew(self, near_whole, (ring,))

    def test_the_two_lists_of_ways_are_two(self):
        ring = plain_ring(4, [(0, 2, 1), (1, 3, 1)])
        answer = near_whole(ring)
        answer[0].append("on")
        self.assertEqual(len(answer[2][1]), 2)
        answer[2][1].clear()
        self.assertEqual(len(answer[0]), 3)
        self.assertEqual(len(near_whole(ring)[0]), 2)
