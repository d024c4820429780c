"""[12.1] Strings of rings, and their places."""

import copy
import random
import unittest

from ringloads.errors import LoadError, NoString
from ringloads.strings import is_place, look_at_string
from tests.samples import (
    SIXTY, chained_string, has_form_of_ratio, many_strings, odd_things, spoilings, string_places, told_anew,
)

ROOMS = [(1, 1), (2, 1), (1, 2)]
STRING = [(ROOMS, None), ([(1, 1), (1, 3)], (0, 0)), ([(1, 1)] * 4, (1, 1)), ([(5, 1)] * 3, (0, 0)), ([(5, 2)] * 2, (2, 3))]


def are_rooms_by_hand(thing):
    if type(thing) is not list or not 2 <= len(thing) <= 12:
        return False
    return all([has_form_of_ratio(room) and room[0] > 0 for room in thing])


def is_place_by_hand(string, thing):
    if type(thing) is not tuple or len(thing) != 2 or not all([type(one) is int for one in thing]):
        return False
    return thing in string_places(string)


def number_by_hand(thing):
    """The number that NoString tells, or True of a string."""
    if type(thing) is not list or len(thing) not in range(1, 7):
        return None
    for number, one in enumerate(thing):
        if type(one) is not tuple or len(one) != 2 or not are_rooms_by_hand(one[0]):
            return number
        if not (one[1] is None if number == 0 else is_place_by_hand(thing[:number], one[1])):
            return number
    return True


class Strings(unittest.TestCase):
    def check(self, thing):
        """Check what look_at_string tells of a thing; tell whether it is a string."""
        asked = number_by_hand(thing)
        if asked is True:
            self.assertIsNone(look_at_string(thing))
            return True
        self.refused(thing, asked)
        return False

    def refused(self, thing, number):
        for step in range(2):
            with self.assertRaises(NoString, msg=repr(thing)) as caught:
                look_at_string(thing)
            self.assertIsInstance(caught.exception, LoadError)
            if number is None:
                self.assertIsNone(caught.exception.number, repr(thing))
            else:
                self.assertEqual(caught.exception.number, number, repr(thing))
                self.assertIs(type(caught.exception.number), int)


class LookAtString(Strings):
    def test_many_strings(self):
        for string in many_strings() + [STRING]:
            kept = copy.deepcopy(string)
            self.assertTrue(self.check(string))
            self.assertEqual(string, kept)

    def test_one_ring_and_six(self):
        for places in (2, 3, 11, 12):
            self.assertTrue(self.check([([(1, 1)] * places, None)]))
            for at in (1, places - 1):
                self.assertTrue(self.check(chained_string(places, at)))

    def test_too_few_and_too_many(self):
        self.refused([], None)
        for many in (7, 8, 60):
            self.refused([(ROOMS, None)] + [(ROOMS, (0, 1))] * (many - 1), None)
            self.refused([None] * many, None)

    def test_several_rings_at_one_place(self):
        for at in ((0, 0), (0, 2), (1, 1), (1, 2)):
            self.assertTrue(self.check([(ROOMS, None), (ROOMS, (0, 1))] + [(ROOMS, at)] * 4))

    def test_at_place_nought_of_a_ring_that_is_not_the_first(self):
        self.assertTrue(self.check([(ROOMS, None), (ROOMS, (0, 0))]))
        for number in range(2, 6):
            for r in range(number):
                string = [(ROOMS, None)] + [(ROOMS, (0, 1))] * (number - 1) + [(ROOMS, (r, 0))]
                if r == 0:
                    self.assertIsNone(look_at_string(string))
                else:
                    self.refused(string, number)

    def test_each_at(self):
        wrong = [(0, 3), (0, -1), (-1, 0), (-1, 1), (1, 1), (5, 1), (True, 1), (0, True), (0, False), [0, 1], (0,), (0, 1, 0)]
        wrong = wrong + [("0", 1), (0, "1"), (0, None), (None, 1), (0, (1,)), (SIXTY, 1), (0, SIXTY), 0, "", {0: 1}]
        for at in wrong + [thing for thing in odd_things() if thing not in [(0, 1), (1, 2), (0, 2)]]:
            self.refused([(ROOMS, None), (ROOMS, at)], 1)
            self.refused([(ROOMS, None), (ROOMS, at), None], 1)
        for at in (0, 1, 2):
            self.assertTrue(self.check([(ROOMS, None), (ROOMS, (0, at))]))

    def test_a_ring_that_hangs_at_itself_or_at_one_behind_it(self):
        self.refused([(ROOMS, None), (ROOMS, (1, 1))], 1)
        self.refused([(ROOMS, None), (ROOMS, (2, 1)), (ROOMS, (0, 1))], 1)
        self.refused([(ROOMS, None), (ROOMS, (0, 1)), (ROOMS, (2, 1))], 2)

    def test_the_first_hangs_nowhere(self):
        for at in [(0, 0), (0, 1), 0, False, (), [], "None"]:
            self.refused([(ROOMS, at)], 0)
            self.refused([(ROOMS, at), (ROOMS, (0, 1))], 0)
        self.refused([(ROOMS, None), (ROOMS, None)], 1)

    def test_each_rooms(self):
        wrong = [[], [(1, 1)], [(1, 1)] * 13, tuple(ROOMS), ROOMS + [(0, 1)], ROOMS + [(-1, 1)], ROOMS + [(2, 4)], ROOMS + [1]]
        wrong = wrong + [ROOMS + [(True, 1)], [None] + ROOMS, [[1, 1], [1, 1]], (ROOMS,), {0: (1, 1)}] + odd_things()
        for rooms in wrong:
            self.refused([(rooms, None)], 0)
            self.refused([(ROOMS, None), (rooms, (0, 1)), None], 1)
            self.refused([(ROOMS, None)] + [(ROOMS, (0, 1))] * 4 + [(rooms, (0, 1))], 5)

    def test_places_of_rings_of_their_own_size(self):
        string = [([(1, 1)] * 5, None), ([(1, 1)] * 2, (0, 4))]
        for p in range(5):
            self.assertTrue(self.check(string + [(ROOMS, (0, p))]))
            self.assertEqual(self.check(string + [(ROOMS, (1, p))]), p == 1)
        self.refused(string + [(ROOMS, (0, 5))], 2)

    def test_the_first_wrong_one_of_several(self):
        for number in range(5):
            for behind in range(number, 5):
                string = list(STRING)
                string[behind] = None
                string[number] = (ROOMS, (4, 1))
                self.refused(string, number)

    def test_one_thing_spoilt_at_each_place(self):
        self.assertTrue(self.check(STRING[:3]))
        for thing in spoilings(STRING[:3]):
            self.check(thing)

    def test_things_of_other_kinds(self):
        for thing in odd_things():
            self.refused(thing, 0 if type(thing) is list and thing else None)
            self.refused([thing], 0)
            self.refused([(ROOMS, None), thing], 1)
        for thing in (tuple(STRING), {0: STRING[0]}, STRING[0], (ROOMS, None), "string", iter(STRING)):
            self.refused(thing, None)
        for thing in ([ROOMS, None], (ROOMS,), (ROOMS, None, None), (None, ROOMS), {0: ROOMS, 1: None}):
            self.refused([thing], 0)

    def test_a_string_looked_at_is_not_kept(self):
        string = copy.deepcopy(STRING)
        self.assertTrue(self.check(string))
        string[1][0][0] = (0, 1)
        self.refused(string, 1)
        string[1][0][0] = (1, 1)
        self.assertTrue(self.check(string))


class IsPlace(unittest.TestCase):
    def check(self, string, thing):
        self.assertIs(is_place(string, thing), is_place_by_hand(string, thing), (string, thing))

    def test_all_places(self):
        for string in many_strings()[::2] + [STRING]:
            for r in range(-1, len(string) + 2):
                for p in range(-1, 14):
                    self.check(string, (r, p))

    def test_examples(self):
        for place in ((0, 0), (0, 2), (1, 1), (2, 3), (4, 1)):
            self.assertIs(is_place(STRING, place), True)
        for thing in ((1, 0), (4, 0), (0, 3), (1, 2), (5, 1), (-1, 1), (0, -1), (True, 1), (0, True), [0, 1], (0, 1, 1), None):
            self.assertIs(is_place(STRING, thing), False, thing)

    def test_things_of_other_kinds(self):
        for thing in odd_things():
            self.check(STRING, thing)
            self.check(STRING, (0, thing))
            self.check(STRING, (thing, 1))
        chance = random.Random(121)
        for string in many_strings()[::6]:
            for thing in spoilings(chance.choice(string_places(string))):
                self.check(string, thing)

    def test_what_is_handed_in_stays(self):
        told_anew(self, is_place, (STRING, (2, 3)))
        told_anew(self, look_at_string, (STRING,))
