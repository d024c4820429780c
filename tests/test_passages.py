"""[12.2], [12.3], [12.4], [0.4] (g) Passages through a string, and its asks parted among its rings."""

import copy
import random
import unittest

from ringloads.errors import LoadError, NoRing, NoString, TooMany
from ringloads.leasts import least_top, lets_least
from ringloads.loads import loads_of
from ringloads.passages import least_of_all, parted_rings, passages
from ringloads.rings import look_at_ring
from tests.samples import (
    chained_string, has_form_of_ratio, many_strings, most_shown, name_of, no_list_shared, number_of, odd_things,
    small_ratio, some_string, spoilings, string_places, told, told_anew,
)
from tests.test_changes import is_name_by_hand
from tests.test_strings import STRING, is_place_by_hand, number_by_hand

ROOMS = [(1, 1), (2, 1), (1, 2)]
ASKS = [("a", (0, 1), (4, 1), (1, 2)), ("b", (1, 1), (0, 2), (3, 1)), ("c", (3, 2), (1, 1), (0, 1))]


def spots_of(string, r):
    """The places of ring r by their numbers in it, each as a place of the string."""
    return [string[r][1] if p == 0 and r > 0 else (r, p) for p in range(len(string[r][0]))]


def searched_passages(string, one, other):
    """All lists of passages between two places, no ring twice in one, by going on from place to place."""
    found = []

    def go(place, gone):
        if place == other:
            found.append(list(gone))
            return
        for r in range(len(string)):
            spots = spots_of(string, r)
            if place in spots and r not in [step[0] for step in gone]:
                for spot in spots:
                    if spot != place:
                        go(spot, gone + [(r, spots.index(place), spots.index(spot))])

    go(one, [])
    return found


def widened_passages(string, one, other):
    """The passages between two places, by going out from the first one ring by ring."""
    reached = {one: []}
    waiting = [one]
    while waiting:
        place = waiting.pop(0)
        for r in range(len(string)):
            spots = spots_of(string, r)
            if place in spots:
                for spot in spots:
                    if spot not in reached:
                        reached[spot] = reached[place] + [(r, spots.index(place), spots.index(spot))]
                        waiting.append(spot)
    return reached[other]


def some_asks(chance, string, many):
    """Asks of a string drawn by chance."""
    asks = []
    for k in range(many):
        one, other = chance.sample(string_places(string), 2)
        asks.append((name_of(k), one, other, small_ratio(chance, True)))
    return asks


def wrong_ask(string, asks):
    """The number that NoRing tells of asks, or True of asks of the string."""
    if type(asks) is not list:
        return None
    names = []
    for number, ask in enumerate(asks):
        if type(ask) is not tuple or len(ask) != 4 or not is_name_by_hand(ask[0]) or ask[0] in names:
            return number
        if not is_place_by_hand(string, ask[1]) or not is_place_by_hand(string, ask[2]) or ask[1] == ask[2]:
            return number
        if not has_form_of_ratio(ask[3]) or ask[3][0] < 0:
            return number
        names.append(ask[0])
    return True


class Passages(unittest.TestCase):
    def test_all_lists_gone_through(self):
        chance = random.Random(1221)
        for number in range(24):
            string = some_string(chance, 1 + number % 5, small_ratio)
            string = [(rooms[:3], None if at is None else (at[0], min(at[1], 2))) for rooms, at in string]
            string = [(rooms, at if at is None or at[1] < len(string[at[0]][0]) else (at[0], 1)) for rooms, at in string]
            self.assertIs(number_by_hand(string), True)
            for one in string_places(string):
                for other in string_places(string):
                    self.assertEqual([passages(string, one, other)], searched_passages(string, one, other))

    def test_many_strings(self):
        for string in many_strings()[::2] + [STRING]:
            places = string_places(string)
            for one in places[::3]:
                for other in places[::2]:
                    answer = passages(string, one, other)
                    self.assertIs(type(answer), list)
                    self.assertEqual(answer, widened_passages(string, one, other), (string, one, other))
                    for step in answer:
                        self.assertIs(type(step), tuple)
                        self.assertNotEqual(step[1], step[2])

    def test_both_places_alike(self):
        for string in many_strings()[::4] + [STRING]:
            for place in string_places(string):
                self.assertEqual(passages(string, place, place), [])

    def test_one_ring(self):
        string = [([(1, 1)] * 12, None)]
        for one in range(12):
            for other in range(12):
                asked = [(0, one, other)] if one != other else []
                self.assertEqual(passages(string, (0, one), (0, other)), asked)

    def test_all_six_rings(self):
        string = chained_string(4, 2)
        asked = [(0, 1, 2), (1, 0, 2), (2, 0, 2), (3, 0, 2), (4, 0, 2), (5, 0, 3)]
        self.assertEqual(passages(string, (0, 1), (5, 3)), asked)
        back = [(r, other, one) for r, one, other in reversed(asked)]
        self.assertEqual(passages(string, (5, 3), (0, 1)), back)
        self.assertEqual(passages(string, (0, 2), (5, 3)), asked[1:])
        self.assertEqual(passages(string, (4, 2), (5, 3)), asked[5:])
        self.assertEqual(passages(string, (5, 1), (5, 3)), [(5, 1, 3)])

    def test_examples(self):
        self.assertEqual(passages(STRING, (1, 1), (3, 2)), [(1, 1, 0), (3, 0, 2)])
        self.assertEqual(passages(STRING, (0, 0), (4, 1)), [(1, 0, 1), (2, 0, 3), (4, 0, 1)])
        self.assertEqual(passages(STRING, (2, 1), (4, 1)), [(2, 1, 3), (4, 0, 1)])
        self.assertEqual(passages(STRING, (4, 1), (0, 2)), [(4, 1, 0), (2, 3, 0), (1, 1, 0), (0, 0, 2)])

    def test_several_rings_at_one_place(self):
        string = [(ROOMS, None)] + [(ROOMS, (0, 2))] * 3 + [(ROOMS, (1, 1)), (ROOMS, (1, 1))]
        self.assertEqual(passages(string, (1, 1), (2, 2)), [(1, 1, 0), (2, 0, 2)])
        self.assertEqual(passages(string, (3, 1), (0, 2)), [(3, 1, 0)])
        self.assertEqual(passages(string, (0, 2), (3, 1)), [(3, 0, 1)])
        self.assertEqual(passages(string, (4, 1), (5, 2)), [(4, 1, 0), (5, 0, 2)])
        self.assertEqual(passages(string, (4, 1), (1, 2)), [(4, 1, 0), (1, 1, 2)])
        self.assertEqual(passages(string, (4, 1), (3, 2)), [(4, 1, 0), (1, 1, 0), (3, 0, 2)])

    def test_what_is_handed_in_stays(self):
        told_anew(self, passages, (STRING, (4, 1), (0, 2)))
        told_anew(self, passages, (STRING, (0, 1), (0, 1)))


class Asks(unittest.TestCase):
    def refused(self, error, string, asks, number=None, part=None):
        kept = None
        if error is TooMany:
            kept = copy.deepcopy((string, asks))
        for ask in (parted_rings, least_of_all):
            with self.assertRaises(error, msg=repr((string, asks))) as caught:
                ask(string, asks)
            self.assertIsInstance(caught.exception, LoadError)
            if error is not TooMany:
                self.assertEqual(caught.exception.number, number, (string, asks))
                self.assertIs(type(caught.exception.number), type(number))
            if error is NoRing:
                self.assertEqual(caught.exception.part, "asks")
        if kept is not None:
            self.assertEqual((string, asks), kept)

    def check(self, string, asks):
        """Check both of what may be no string and no asks; tell whether they are."""
        number = number_by_hand(string)
        if number is not True:
            self.refused(NoString, string, asks, number)
            return False
        number = wrong_ask(string, asks)
        if number is not True:
            self.refused(NoRing, string, asks, number)
            return False
        self.check_right(string, asks)
        return True

    def check_right(self, string, asks):
        asked = [(rooms, []) for rooms, at in string]
        for name, one, other, size in asks:
            for r, enter, leave in widened_passages(string, one, other):
                asked[r][1].append((name, enter, leave, size))
        if max([len(ring[1]) for ring in asked]) > 20:
            self.refused(TooMany, string, asks)
            return
        rings = parted_rings(string, asks)
        self.assertEqual(rings, asked)
        self.assertIs(type(rings), list)
        no_list_shared(self, rings)
        for ring in rings:
            self.assertIs(type(ring), tuple)
            self.assertIsNone(look_at_ring(ring))
        self.check_least(string, asks, rings)

    def check_least(self, string, asks, rings):
        answer = least_of_all(string, asks)
        self.assertIs(type(answer), tuple)
        top, r, leasts = answer
        self.assertIs(type(leasts), list)
        self.assertEqual(leasts, [least_top(ring) for ring in rings])
        tops = [most_shown(ring) for ring in rings]
        self.assertEqual((number_of(top), r), (max(tops), tops.index(max(tops))))
        self.assertIs(type(r), int)
        for ring, least in zip(rings, leasts):
            self.assertIs(lets_least(ring, least), True)
        no_list_shared(self, answer, rings)

    def test_many_strings(self):
        chance = random.Random(1231)
        for number, string in enumerate(many_strings()[::2]):
            for many in (0, 1, 5 + number % 4, 20):
                self.assertTrue(self.check(string, some_asks(chance, string, many)))

    def test_no_asks(self):
        for string in (STRING, chained_string(2, 1), [(ROOMS, None)]):
            self.assertEqual(parted_rings(string, []), [(rooms, []) for rooms, at in string])
            top, r, leasts = least_of_all(string, [])
            self.assertEqual((top, r, len(leasts)), ((0, 1), 0, len(string)))

    def test_examples(self):
        rings = parted_rings(STRING, ASKS)
        self.assertEqual(rings[0], (ROOMS, [("a", 1, 0, (1, 2)), ("b", 0, 2, (3, 1))]))
        self.assertEqual(rings[1][1], [("a", 0, 1, (1, 2)), ("b", 1, 0, (3, 1)), ("c", 0, 1, (0, 1))])
        self.assertEqual(rings[2][1], [("a", 0, 3, (1, 2))])
        self.assertEqual(rings[3][1], [("c", 2, 0, (0, 1))])
        self.assertEqual(rings[4][1], [("a", 0, 1, (1, 2))])
        # Ring 1 has rooms of 1 and 1/3, over which 7/2 go.
        self.assertEqual(least_of_all(STRING, ASKS)[:2], ((21, 8), 1))

    def test_the_first_ring_that_has_the_greatest(self):
        string = chained_string(2, 1)
        for many in range(1, 6):
            asks = [("a", (0, 0), (many, 1), (1, 1))]
            self.assertEqual(least_of_all(string, asks)[:2], ((1, 2), 0))
            asks = [("a", (many, 1), (many - 1, 1), (1, 1))]
            self.assertEqual(least_of_all(string, asks)[:2], ((1, 2), many))

    def test_no_less_than_what_all_asks_put_on_a_ring(self):
        # Whatever is sent round each ring, the greatest strain of all is no less than told.
        chance = random.Random(1241)
        for string in many_strings()[::6]:
            asks = some_asks(chance, string, 6)
            top = number_of(least_of_all(string, asks)[0])
            rings = parted_rings(string, asks)
            for step in range(5):
                strains = []
                for ring in rings:
                    sending = [told(number_of(ask[3]) * chance.choice([0, 1])) for ask in ring[1]]
                    loads = loads_of(ring, sending)
                    strains.extend([number_of(load) / number_of(room) for load, room in zip(loads, ring[0])])
                self.assertGreaterEqual(max(strains), top)

    def test_twenty_and_twenty_one_through_one_ring(self):
        for many in (20, 21, 22, 60):
            asks = [(name_of(k), (0, 1), (0, 2), (1, 1)) for k in range(many)]
            self.assertTrue(self.check([(ROOMS, None)], asks))
            string = [(ROOMS, None), (ROOMS, (0, 1)), (ROOMS, (1, 2))]
            through = [(name_of(k), (0, 2), (2, 1), (1, 1)) for k in range(many)]
            self.assertTrue(self.check(string, through))
            if many == 20:
                self.assertEqual([len(ring[1]) for ring in parted_rings(string, through)], [20, 20, 20])
            else:
                self.refused(TooMany, [(ROOMS, None)], asks)
                self.refused(TooMany, string, through)
        # Sixty asks, no more than twenty of them through any one ring.
        spread = [(name_of(k), (k // 20, 1), (k // 20, 2), (1, 1)) for k in range(60)]
        self.assertEqual([len(ring[1]) for ring in parted_rings([(ROOMS, None)] + [(ROOMS, (0, 0))] * 2, spread)], [20] * 3)
        last = spread + [("zzz", (2, 1), (2, 2), (1, 1))]
        self.refused(TooMany, [(ROOMS, None)] + [(ROOMS, (0, 0))] * 2, last)

    def test_the_order_of_the_refusals(self):
        many = [(name_of(k), (0, 1), (0, 2), (1, 1)) for k in range(21)]
        one = [(ROOMS, None)]
        self.refused(TooMany, one, many)
        self.refused(NoRing, one, many + [None], 21)
        self.refused(NoRing, one, many + [("a", (0, 1), (0, 2), (1, 1))], 21)
        self.refused(NoRing, one, tuple(many), None)
        for string, number in (([], None), (tuple(one), None), ([(ROOMS, (0, 0))], 0), (one + [(ROOMS, None)], 1)):
            for asks in (many, many + [None], None, []):
                self.refused(NoString, string, asks, number)

    def test_one_thing_spoilt_at_each_place(self):
        string = STRING[:3]
        asks = [("a", (0, 1), (2, 1), (1, 2)), ("b", (1, 1), (0, 2), (3, 1))]
        self.assertTrue(self.check(string, asks))
        for thing in spoilings(asks):
            self.check(string, thing)
        for thing in spoilings(string):
            self.check(thing, asks)
        for number in range(3):
            for thing in [None, ("d", (0, 0), (1, 0), (1, 1)), ("d", 0, 1, (1, 1)), ("a", (0, 0), (0, 0), (1, 1))]:
                wrong = list(ASKS)
                wrong.insert(number, thing)
                self.refused(NoRing, STRING, wrong, number)
                self.refused(NoRing, STRING, wrong + [None], number)

    def test_things_of_other_kinds(self):
        for thing in odd_things():
            self.check(thing, ASKS)
            self.check([thing], ASKS)
            self.check(STRING, thing)
            self.check(STRING, [thing])
            for number in range(4):
                ask = ASKS[0][:number] + (thing,) + ASKS[0][number + 1:]
                self.check(STRING, [ask])
        self.refused(NoRing, STRING, tuple(ASKS), None)
        self.refused(NoRing, STRING, [("a", (0, 1), (0, 1), (1, 1))], 0)
        self.refused(NoRing, STRING, [("a", (0, 1), (0, True), (1, 1))], 0)
        self.refused(NoRing, STRING, ASKS + [("b", (0, 1), (0, 2), (1, 1))], 3)
        self.refused(NoRing, STRING, ASKS + [("d", (0, 1), (1, 0), (1, 1))], 3)
        self.refused(NoRing, STRING, ASKS + [("d", (0, 1), (0, 2), (-1, 1))], 3)

    def test_what_is_handed_in_stays(self):
        told_anew(self, parted_rings, (STRING, ASKS))
        told_anew(self, least_of_all, (STRING, ASKS))

    def test_rings_that_share_a_list_of_rooms(self):
        rooms = list(ROOMS)
        string = [(rooms, None), (rooms, (0, 1)), (rooms, (0, 1))]
        rings = parted_rings(string, ASKS[:0])
        rings[0][0].clear()
        rings[0][1].append(None)
        self.assertEqual(rings[1:], [(ROOMS, []), (ROOMS, [])])
        self.assertEqual(rooms, ROOMS)
