"""[10.1], [10.2] Changes of a ring, and ways carried over them."""

import copy
import random
import unittest

from ringloads.changes import carried, changed
from ringloads.errors import LoadError, NoChange
from ringloads.rings import look_at_ring
from tests.samples import (
    full_rings, has_form_of_ratio, long_rings, many_rings, no_list_shared, odd_things, plain_ring, spoilings, told_anew,
)

RING = ([(1, 1), (2, 1), (1, 2)], [("a", 0, 1, (1, 1)), ("b", 2, 0, (3, 4)), ("c", 1, 2, (0, 1))])
WAYS = ["on", "back", "on"]


def is_number(thing, some):
    return type(thing) is int and thing in range(len(some))


def is_name_by_hand(thing):
    return type(thing) is str and 1 <= len(thing) <= 8 and all(["a" <= sign <= "z" for sign in thing])


def is_new_ask(ring, thing):
    """Whether a thing can stand behind the asks of the ring."""
    if type(thing) is not tuple or len(thing) != 4 or len(ring[1]) > 19:
        return False
    name, one, other, size = thing
    if not is_name_by_hand(name) or name in [ask[0] for ask in ring[1]]:
        return False
    if not is_number(one, ring[0]) or not is_number(other, ring[0]) or one == other:
        return False
    return has_form_of_ratio(size) and size[0] >= 0


def change_by_hand(ring, thing):
    """The changed ring and the numbers of the asks that stay, None of what is no change."""
    if type(thing) is not tuple or len(thing) not in (2, 3) or type(thing[0]) is not str:
        return None
    rooms, asks = copy.deepcopy(ring)
    numbers = list(range(len(asks)))
    if thing[0] == "more" and len(thing) == 2 and is_new_ask(ring, thing[1]):
        return (rooms, asks + [thing[1]]), numbers + [None]
    if thing[0] == "gone" and len(thing) == 2 and is_number(thing[1], asks):
        stay = [k for k in numbers if k != thing[1]]
        return (rooms, [asks[k] for k in stay]), stay
    if len(thing) != 3 or not has_form_of_ratio(thing[2]):
        return None
    if thing[0] == "size" and is_number(thing[1], asks) and thing[2][0] >= 0:
        asks[thing[1]] = asks[thing[1]][:3] + (thing[2],)
        return (rooms, asks), numbers
    if thing[0] == "room" and is_number(thing[1], rooms) and thing[2][0] > 0:
        rooms[thing[1]] = thing[2]
        return (rooms, asks), numbers
    return None


class Changes(unittest.TestCase):
    def refused(self, ring, ways, change):
        kept = copy.deepcopy((ring, ways))
        for ask, handed in ((changed, (ring, change)), (carried, (ring, change, ways))):
            with self.assertRaises(NoChange, msg=repr(change)) as caught:
                ask(*handed)
            self.assertIsInstance(caught.exception, LoadError)
        self.assertEqual((ring, ways), kept)

    def check(self, ring, ways, change):
        """Check both against the points' words; tell whether it is a change."""
        asked = change_by_hand(ring, change)
        if asked is None:
            self.refused(ring, ways, change)
            return False
        answer = changed(ring, change)
        self.assertEqual(answer, asked[0], (ring, change))
        self.assertIs(type(answer), tuple)
        self.assertIsNone(look_at_ring(answer))
        no_list_shared(self, answer, ring)
        taken = carried(ring, change, ways)
        self.assertIs(type(taken), list)
        self.assertEqual(taken, [None if k is None else ways[k] for k in asked[1]])
        self.assertIsNot(taken, ways)
        return True

    def test_all_changes_of_many_rings(self):
        chance = random.Random(101)
        for ring in many_rings() + full_rings(3) + long_rings():
            ways = [chance.choice(["on", "back"]) for ask in ring[1]]
            places = len(ring[0])
            asks = len(ring[1])
            for k in range(-1, asks + 2):
                self.assertEqual(self.check(ring, ways, ("gone", k)), 0 <= k < asks)
                for size in ((0, 1), (5, 3), (10 ** 60 - 1, 2)):
                    self.assertEqual(self.check(ring, ways, ("size", k, size)), 0 <= k < asks)
            for tie in range(-1, places + 2):
                for room in ((1, 10 ** 59), (5, 3)):
                    self.assertEqual(self.check(ring, ways, ("room", tie, room)), 0 <= tie < places)
            for size in ((0, 1), (5, 3)):
                one, other = chance.sample(range(places), 2)
                self.assertEqual(self.check(ring, ways, ("more", ("zzz", one, other, size))), asks < 20)

    def test_examples(self):
        ring = copy.deepcopy(RING)
        more = ("d", 2, 1, (7, 1))
        self.assertEqual(changed(ring, ("more", more)), (RING[0], RING[1] + [more]))
        self.assertEqual(carried(ring, ("more", more), WAYS), ["on", "back", "on", None])
        self.assertEqual(changed(ring, ("gone", 1)), (RING[0], [RING[1][0], RING[1][2]]))
        self.assertEqual(carried(ring, ("gone", 1), ["on", "back", "back"]), ["on", "back"])
        self.assertEqual(carried(ring, ("gone", 0), ["on", "back", "back"]), ["back", "back"])
        self.assertEqual(carried(ring, ("gone", 2), ["on", "back", "back"]), ["on", "back"])
        self.assertEqual(changed(ring, ("size", 1, (5, 1)))[1][1], ("b", 2, 0, (5, 1)))
        self.assertEqual(carried(ring, ("size", 1, (5, 1)), WAYS), WAYS)
        self.assertEqual(changed(ring, ("room", 2, (5, 1))), ([(1, 1), (2, 1), (5, 1)], RING[1]))
        self.assertEqual(carried(ring, ("room", 2, (5, 1)), WAYS), WAYS)

    def test_no_asks(self):
        for places in (2, 12):
            ring = plain_ring(places, [])
            for change in (("gone", 0), ("size", 0, (1, 1)), ("gone", -1), ("size", -1, (1, 1))):
                self.refused(ring, [], change)
            self.assertTrue(self.check(ring, [], ("more", ("a", 0, places - 1, (0, 1)))))
            self.assertFalse(self.check(ring, [], ("more", ("a", 0, places, (0, 1)))))
            self.assertTrue(self.check(ring, [], ("room", places - 1, (3, 1))))

    def test_the_last_ask_goes(self):
        ring = plain_ring(2, [(0, 1, 1)])
        self.assertEqual(changed(ring, ("gone", 0)), ([(1, 1), (1, 1)], []))
        self.assertEqual(carried(ring, ("gone", 0), ["on"]), [])

    def test_twenty_asks(self):
        ring = plain_ring(12, [(0, 1, 1)] * 20)
        ways = ["on"] * 20
        self.refused(ring, ways, ("more", ("zzz", 0, 1, (1, 1))))
        nineteen = plain_ring(12, [(0, 1, 1)] * 19)
        self.assertTrue(self.check(nineteen, ["on"] * 19, ("more", ("zzz", 0, 1, (1, 1)))))
        self.assertTrue(self.check(ring, ways, ("gone", 19)))
        self.assertTrue(self.check(ring, ways, ("size", 19, (0, 1))))

    def test_asks_more_that_make_no_ring(self):
        ring = copy.deepcopy(RING)
        wrong = [
            ("a", 0, 1, (1, 1)), ("c", 0, 1, (1, 1)), ("", 0, 1, (1, 1)), ("abcdefghi", 0, 1, (1, 1)), ("D", 0, 1, (1, 1)),
            ("d", 0, 0, (1, 1)), ("d", 0, 3, (1, 1)), ("d", -1, 1, (1, 1)), ("d", True, 0, (1, 1)), ("d", 0, 1, (-1, 1)),
            ("d", 0, 1, (2, 2)), ("d", 0, 1, 1), ("d", 0, 1), ("d", 0, 1, (1, 1), None), ["d", 0, 1, (1, 1)], None,
            (["d"], 0, 1, (1, 1)), (None, 0, 1, (1, 1)), ("d", 0, 1, [1, 1]), ("d", "0", 1, (1, 1)),
        ]
        for ask in wrong:
            self.refused(ring, WAYS, ("more", ask))
        self.assertTrue(self.check(ring, WAYS, ("more", ("d", 0, 1, (1, 1)))))
        self.refused(ring, WAYS, ("more",) + ("d", 0, 1, (1, 1)))
        self.refused(ring, WAYS, ("more", [("d", 0, 1, (1, 1))]))

    def test_sizes_and_rooms_that_make_no_ring(self):
        ring = copy.deepcopy(RING)
        for wrong in ((-1, 1), (-1, 10 ** 60), (2, 2), (0, 2), (1, 0), (True, 1), (1, True), [1, 1], 1, None, "1", (1,)):
            for number in range(3):
                self.refused(ring, WAYS, ("size", number, wrong))
                self.refused(ring, WAYS, ("room", number, wrong))
        for number in range(3):
            self.refused(ring, WAYS, ("room", number, (0, 1)))
            self.assertTrue(self.check(ring, WAYS, ("size", number, (0, 1))))
            self.assertTrue(self.check(ring, WAYS, ("room", number, (1, 10 ** 59))))

    def test_one_thing_spoilt_at_each_place(self):
        ring = copy.deepcopy(RING)
        rights = [("more", ("d", 2, 1, (7, 2))), ("gone", 1), ("size", 1, (5, 3)), ("room", 1, (5, 3)), ("gone", 0)]
        for right in rights:
            self.assertTrue(self.check(ring, WAYS, right))
            for thing in spoilings(right):
                self.check(ring, WAYS, thing)

    def test_things_of_other_kinds(self):
        ring = copy.deepcopy(RING)
        for thing in odd_things():
            self.refused(ring, WAYS, thing)
            for word in ("more", "gone", "size", "room", "", "MORE", thing):
                self.check(ring, WAYS, (word, thing))
                self.check(ring, WAYS, (word, thing, (1, 1)))
                self.check(ring, WAYS, (word, 0, thing))
                self.check(ring, WAYS, (word, thing, thing, thing))
                self.refused(ring, WAYS, [word, 0, (1, 1)])
        wrong = [
            ["gone", 0], ("gone",), ("gone", 0, 0), ("size", 0), ("size", 0, (1, 1), 0), ("room", 0), ("more",),
            ("room", 0, (1, 1), 0), ("more", ("d", 0, 1, (1, 1)), 0), ("size", (1, 1), 0), ("less", 0), ("gone", "b"),
            {"gone": 0}, "gone", ("gone", [0]), ("gone", (0,)), ("gone", True), ("room", False, (1, 1)),
        ]
        for thing in wrong:
            self.refused(ring, WAYS, thing)

    def test_what_is_handed_in_stays(self):
        for change in (("more", ("d", 2, 1, (7, 2))), ("gone", 1), ("size", 1, (5, 3)), ("room", 1, (5, 3))):
            told_anew(self, changed, (RING, change))
            told_anew(self, carried, (RING, change, WAYS))
