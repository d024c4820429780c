"""[2.1], [2.2] What a ring is, and how things that are none are refused."""

import copy
import unittest

from ringloads.errors import LoadError, NoRing
from ringloads.rings import look_at_ring
from tests.samples import SIXTY, has_form_of_ratio, many_rings, name_of, odd_things

ROOMS = [(1, 1), (2, 1), (1, 2)]
ASKS = [("a", 0, 1, (1, 1)), ("b", 2, 0, (3, 4)), ("c", 1, 2, (0, 1))]


class Rings(unittest.TestCase):
    def stands(self, ring):
        kept = copy.deepcopy(ring)
        self.assertIsNone(look_at_ring(ring))
        self.assertEqual(ring, kept)

    def refused(self, thing, part, number):
        for step in range(2):
            with self.assertRaises(NoRing) as caught:
                look_at_ring(thing)
            self.assertIsInstance(caught.exception, LoadError)
            self.assertEqual(caught.exception.part, part)
            if number is None:
                self.assertIsNone(caught.exception.number)
            else:
                self.assertEqual(caught.exception.number, number)
                self.assertIs(type(caught.exception.number), int)

    def test_many_rings(self):
        for ring in many_rings():
            self.stands(ring)

    def test_edges(self):
        self.stands(([(1, 1), (1, 1)], []))
        self.stands(([(1, 1)] * 12, []))
        self.stands(([(1, 1)] * 12, [(name_of(k), 11, 0, (0, 1)) for k in range(20)]))
        self.stands(([(1, 1)] * 2, [("a", 0, 1, (0, 1)), ("abcdefgh", 1, 0, (1, 9))]))
        self.stands(([(1, SIXTY), (SIXTY, SIXTY - 1)], [("a", 1, 0, (SIXTY, 8))]))
        self.stands((list(ROOMS), list(ASKS)))

    def test_what_is_no_tuple_of_two_things(self):
        for thing in odd_things():
            if type(thing) is tuple and len(thing) == 2:
                self.refused(thing, "rooms", None)
            else:
                self.refused(thing, "ring", None)
        for thing in ([ROOMS, ASKS], (ROOMS,), (ROOMS, ASKS, None), (ROOMS, ASKS, []), {0: ROOMS, 1: ASKS}):
            self.refused(thing, "ring", None)

    def test_rooms_that_are_no_list(self):
        for thing in odd_things():
            if type(thing) is not list:
                self.refused((thing, []), "rooms", None)
                self.refused((thing, None), "rooms", None)
        self.refused((tuple(ROOMS), ASKS), "rooms", None)
        self.refused(({0: (1, 1), 1: (1, 1)}, []), "rooms", None)

    def test_too_few_and_too_many_rooms(self):
        for many in (0, 1, 13, 14, 40):
            self.refused(([(1, 1)] * many, []), "rooms", None)
            self.refused(([None] * many, None), "rooms", None)
        self.refused(([(1, 1)], [("a", 0, 0, (1, 1))]), "rooms", None)

    def test_each_room(self):
        wrong = [(0, 1), (-1, 1), (-1, 2), (2, 2), (0, 2), (1, 0), (1, -1), (-1, -1), (True, 1), (1, True), [1, 1], 1, "1"]
        wrong = wrong + [thing for thing in odd_things() if not has_form_of_ratio(thing)]
        for room in wrong:
            for many in (2, 3, 12):
                for number in range(many):
                    rooms = [(1, 1)] * many
                    rooms[number] = room
                    self.refused((rooms, []), "rooms", number)
                    rooms[many - 1] = room
                    self.refused((rooms, None), "rooms", number)

    def test_rooms_come_ahead_of_asks(self):
        self.refused(([(1, 1), (0, 1)], [None]), "rooms", 1)
        self.refused(([(1, 1), (0, 1)], "asks"), "rooms", 1)
        self.refused((None, [None]), "rooms", None)

    def test_asks_that_are_no_list(self):
        for thing in odd_things():
            if type(thing) is not list:
                self.refused((ROOMS, thing), "asks", None)
        self.refused((ROOMS, tuple(ASKS)), "asks", None)
        self.refused((ROOMS, ()), "asks", None)

    def test_too_many_asks(self):
        for many in (21, 22, 60):
            self.refused((ROOMS, [(name_of(k), 0, 1, (1, 1)) for k in range(many)]), "asks", None)
            self.refused((ROOMS, [None] * many), "asks", None)

    def test_each_ask(self):
        right = ("new", 2, 1, (1, 1))
        wrong = [thing for thing in odd_things()] + [list(right), right[:3], right + (None,), dict(enumerate(right))]
        for thing in odd_things():
            if not (type(thing) is str and thing in ("a", "on", "back", "ring")):
                wrong.append((thing,) + right[1:])
            if type(thing) is not int:
                wrong.append(("new", thing, 1, (1, 1)))
                wrong.append(("new", 2, thing, (1, 1)))
            if not has_form_of_ratio(thing):
                wrong.append(("new", 2, 1, thing))
        self.check_each(wrong)

    def test_names_of_asks(self):
        for name in ("", "abcdefghi", "A", "a1", "a ", None, 1, ["a"], ("a",)):
            self.check_each([(name, 0, 1, (1, 1))])
        self.stands((ROOMS, ASKS + [("abcdefgh", 0, 1, (1, 1))]))

    def test_places_of_asks(self):
        for one, other in ((0, 0), (2, 2), (0, 3), (3, 0), (-1, 0), (0, -1), (True, 0), (0, True), (False, 1), (1, False),
                           (3, 3), (-1, -1), ("0", 1), (0, (1, 1)), (SIXTY, 0), (None, 0), (0, None)):
            self.check_each([("new", one, other, (1, 1))])

    def test_the_last_place_and_the_place_behind_it(self):
        for places in range(2, 13):
            rooms = [(1, 1)] * places
            self.stands((rooms, [("a", places - 1, 0, (1, 1)), ("b", 0, places - 1, (1, 1))]))
            self.refused((rooms, [("a", places, 0, (1, 1))]), "asks", 0)
            self.refused((rooms, [("a", 0, places, (1, 1))]), "asks", 0)

    def test_sizes_of_asks(self):
        for size in ((-1, 1), (-1, SIXTY), (2, 4), (0, 2), (1, 0), (1, -1), 1, 0, "1", [1, 1], (True, 1), (1, True), None):
            self.check_each([("new", 0, 1, size)])
        self.stands((ROOMS, ASKS + [("new", 0, 1, (0, 1)), ("newer", 0, 1, (1, SIXTY))]))

    def check_each(self, wrong):
        for ask in wrong:
            for number in range(4):
                asks = list(ASKS)
                asks.insert(number, ask)
                self.refused((ROOMS, asks), "asks", number)
                self.refused((ROOMS, asks + [None]), "asks", number)
            last = [(name_of(k + 30), 0, 1, (1, 1)) for k in range(19)] + [ask]
            self.refused((ROOMS, last), "asks", 19)

    def test_a_name_that_stands_ahead(self):
        self.refused((ROOMS, ASKS + [("a", 2, 1, (5, 1))]), "asks", 3)
        self.refused((ROOMS, [ASKS[0], ASKS[0], None]), "asks", 1)
        self.refused((ROOMS, ASKS + [("d", 0, 1, (1, 1)), ("d", 1, 0, (1, 1)), ("a", 1, 0, (1, 1))]), "asks", 4)
        self.refused((ROOMS, [ASKS[0], ASKS[1], None, ASKS[0]]), "asks", 2)

    def test_what_is_refused_stays_as_it_was(self):
        ring = (list(ROOMS), ASKS + [("a", 2, 1, (5, 1))])
        kept = copy.deepcopy(ring)
        self.refused(ring, "asks", 3)
        self.assertEqual(ring, kept)

    def test_a_ring_looked_at_is_not_kept(self):
        ring = (list(ROOMS), list(ASKS))
        self.stands(ring)
        ring[0][1] = (0, 1)
        self.refused(ring, "rooms", 1)
        ring[0][1] = (5, 1)
        self.stands(ring)
