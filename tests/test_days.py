"""[14.1], [0.2], [0.4] (h) Days: a ring and its ways, changed and undone."""

import copy
import random
import unittest

from ringloads.best import best_ways
from ringloads.changes import changed
from ringloads.days import Days
from ringloads.errors import LoadError, NoChange, NoDay, TooMany
from ringloads.mends import mend_of
from tests.by_hand import best_number
from tests.samples import (
    full_rings, long_ratio, name_of, no_list_shared, number_of, odd_things, plain_ring, small_ratio, small_rings, some_ring,
    spoilings, told, top_number, whole_sending,
)
from tests.test_changes import change_by_hand
from tests.test_mends import carried_by_hand
from tests.test_search import rings_of_seven
from tests.texts_by_hand import same_kinds


def state_of(days):
    """All that days tell."""
    return (days.ring(), days.ways(), days.top(), days.count())


def some_change(chance, ring, number):
    """A change of the ring drawn by chance, such that it has at most seven asks behind it."""
    kinds = ["room", "room"] + ["more"] * 2 * (len(ring[1]) < 7) + ["size", "size", "gone"] * (len(ring[1]) > 0)
    kind = chance.choice(kinds)
    if kind == "room":
        return ("room", chance.randrange(len(ring[0])), small_ratio(chance, False))
    if kind == "more":
        one, other = chance.sample(range(len(ring[0])), 2)
        return ("more", ("z" + name_of(number), one, other, small_ratio(chance, True)))
    k = chance.randrange(len(ring[1]))
    return ("gone", k) if kind == "gone" else ("size", k, small_ratio(chance, True))


class DaysOfARing(unittest.TestCase):
    def begun(self, ring):
        """Days of a ring, as they are at first."""
        days = Days(ring)
        same_kinds(self, state_of(days), (ring, best_ways(ring)[1], best_ways(ring)[0], 0))
        return days

    def step(self, days, change):
        """Check one change against mend_of, and against the points' words."""
        ring, ways, top, count = state_of(days)
        mend = mend_of(ring, ways, change)
        names = days.change(change)
        self.assertIs(type(names), list)
        made, elder = carried_by_hand(ring, ways, change)
        same_kinds(self, state_of(days), (made, mend[1], mend[0], count + 1))
        self.assertEqual(days.ring(), changed(ring, change))
        turned = [ask[0] for k, ask in enumerate(made[1]) if elder[k] is not None and elder[k] != days.ways()[k]]
        self.assertEqual(names, turned)
        self.assertEqual(number_of(days.top()), best_number(made))
        self.assertEqual(days.top(), told(top_number(made, whole_sending(made, days.ways()))))
        return names

    def refused(self, days, error, thing):
        before = state_of(days)
        for step in range(2):
            with self.assertRaises(error, msg=repr(thing)) as caught:
                days.change(thing)
            self.assertIsInstance(caught.exception, LoadError)
            self.assertEqual(state_of(days), before)

    def no_undo(self, days):
        before = state_of(days)
        with self.assertRaises(NoDay) as caught:
            days.undo()
        self.assertIsInstance(caught.exception, LoadError)
        self.assertEqual(state_of(days), before)

    def test_changed_and_undone_step_by_step(self):
        chance = random.Random(1411)
        turned = 0
        for ring in small_rings(30) + rings_of_seven(6):
            days = self.begun(ring)
            states = [state_of(days)]
            for number in range(6):
                turned += len(self.step(days, some_change(chance, days.ring(), number)))
                states.append(state_of(days))
            while len(states) > 1:
                self.assertEqual(state_of(days), states.pop())
                self.assertIsNone(days.undo())
            self.assertEqual(state_of(days), states[0])
            self.no_undo(days)
            self.assertEqual(state_of(days), states[0])
        self.assertGreater(turned, 20)

    def test_changed_and_undone_to_and_fro(self):
        chance = random.Random(1412)
        for ring in small_rings(15):
            days = self.begun(ring)
            states = [state_of(days)]
            for number in range(20):
                if chance.random() < 0.4:
                    if len(states) == 1:
                        self.no_undo(days)
                    else:
                        states.pop()
                        days.undo()
                else:
                    self.step(days, some_change(chance, days.ring(), number))
                    states.append(state_of(days))
                self.assertEqual(state_of(days), states[-1])
                self.assertEqual(days.count(), len(states) - 1)

    def test_the_same_change_again_behind_an_undo(self):
        ring = plain_ring(4, [(0, 2, 3), (1, 3, 2), (0, 1, 4)])
        for change in (("gone", 0), ("size", 1, (9, 1)), ("room", 0, (1, 9)), ("more", ("zz", 3, 1, (5, 1)))):
            days = self.begun(ring)
            first = days.change(change)
            state = state_of(days)
            days.undo()
            self.assertEqual(days.change(change), first)
            self.assertEqual(state_of(days), state)

    def test_seven_and_eight_asks(self):
        for places in (2, 12):
            days = self.begun(plain_ring(places, [(0, 1, 1)] * 7))
            self.refused(days, TooMany, ("more", ("zz", 0, 1, (1, 1))))
            self.refused(days, NoChange, ("more", ("a", 0, 1, (1, 1))))
            self.refused(days, NoChange, ("more", ("zz", 0, places, (1, 1))))
            self.step(days, ("gone", 6))
            self.step(days, ("more", ("zz", 0, 1, (1, 1))))
            self.refused(days, TooMany, ("more", ("zzz", 0, 1, (1, 1))))
            self.assertEqual(days.count(), 2)
            for asks in (8, 9, 20):
                with self.assertRaises(TooMany) as caught:
                    Days(plain_ring(places, [(0, 1, 1)] * asks))
                self.assertIsInstance(caught.exception, LoadError)
        for ring in full_rings(2):
            with self.assertRaises(TooMany):
                Days(ring)

    def test_no_asks(self):
        for places in (2, 12):
            days = self.begun(plain_ring(places, []))
            self.assertEqual(days.ways(), [])
            self.assertEqual(days.top(), (0, 1))
            self.no_undo(days)
            self.assertEqual(self.step(days, ("more", ("a", 0, 1, (1, 1)))), [])
            self.assertEqual(self.step(days, ("gone", 0)), [])
            days.undo()
            days.undo()
            self.no_undo(days)

    def test_names_in_their_order_in_the_changed_ring(self):
        ring = ([(1, 1), (1, 1)], [(name, 0, 1, (1, 1)) for name in ("d", "b", "c", "a")])
        days = self.begun(ring)
        names = self.step(days, ("room", 0, (1, 99)))
        self.assertEqual(names, [name for name in ("d", "b", "c", "a") if name in names])
        self.assertEqual(len(names), 2)
        self.assertEqual(days.ways(), ["back"] * 4)
        # Behind an ask that is gone the others' numbers are less by one; their names stay.
        self.step(days, ("gone", 0))
        self.assertEqual(self.step(days, ("room", 1, (1, 999))), ["b", "c", "a"])

    def test_a_change_that_leaves_all_as_it_was(self):
        ring = plain_ring(4, [(0, 2, 3), (1, 3, 2), (0, 1, 4)])
        days = self.begun(ring)
        before = state_of(days)
        self.assertEqual(self.step(days, ("size", 1, (2, 1))), [])
        self.assertEqual(state_of(days)[:3], before[:3])
        self.assertEqual(days.count(), 1)

    def test_things_of_other_kinds(self):
        ring = plain_ring(3, [(0, 1, 1), (1, 2, 1)])
        days = Days(ring)
        days.change(("size", 0, (5, 2)))
        for thing in odd_things():
            self.refused(days, NoChange, thing)
        for right in (("more", ("d", 2, 1, (7, 2))), ("gone", 1), ("size", 1, (5, 3)), ("room", 1, (5, 3))):
            for thing in spoilings(right):
                if change_by_hand(days.ring(), thing) is None:
                    self.refused(days, NoChange, thing)
                else:
                    before = state_of(days)
                    self.step(days, thing)
                    days.undo()
                    self.assertEqual(state_of(days), before)

    def test_sixty_figures(self):
        chance = random.Random(1413)
        days = self.begun(some_ring(chance, 5, 5, long_ratio))
        before = state_of(days)
        self.step(days, ("size", 2, long_ratio(chance, True)))
        self.step(days, ("more", ("zz", 0, 3, long_ratio(chance, True))))
        days.undo()
        days.undo()
        self.assertEqual(state_of(days), before)

    def test_the_ring_that_was_handed_in(self):
        ring = plain_ring(4, [(0, 2, 3), (1, 3, 2), (0, 1, 4)])
        kept = copy.deepcopy(ring)
        days = Days(ring)
        state = state_of(days)
        self.assertEqual(ring, kept)
        days.change(("size", 0, (7, 1)))
        days.change(("gone", 1))
        self.assertEqual(ring, kept)
        days.undo()
        days.undo()
        ring[0][0] = (99, 1)
        ring[1].clear()
        self.assertEqual(state_of(days), state)
        self.assertEqual(days.change(("size", 0, (3, 1))), [])

    def test_told_lists_are_the_askers_own(self):
        ring = plain_ring(4, [(0, 2, 3), (1, 3, 2), (0, 1, 4)])
        days = Days(ring)
        days.change(("size", 0, (7, 1))).append("zz")
        for step in range(2):
            state = copy.deepcopy(state_of(days))
            no_list_shared(self, days.ring(), days.ring(), days.ways(), days.ways())
            told_ring = days.ring()
            told_ring[0].clear()
            told_ring[1].clear()
            told_ways = days.ways()
            told_ways.reverse()
            told_ways.append("on")
            self.assertEqual(state_of(days), state)
            days.undo()
            days.change(("size", 0, (7, 1)))
            self.assertEqual(state_of(days), state)

    def test_what_was_told_stays_as_it_was(self):
        days = Days(plain_ring(4, [(0, 2, 3), (1, 3, 2), (0, 1, 4)]))
        before = state_of(days)
        kept = copy.deepcopy(before)
        days.change(("room", 0, (1, 9)))
        days.change(("gone", 0))
        self.assertEqual(before, kept)

    def test_two_days_share_nothing(self):
        ring = plain_ring(4, [(0, 2, 3), (1, 3, 2), (0, 1, 4)])
        one, other = Days(ring), Days(ring)
        state = state_of(other)
        one.change(("gone", 0))
        one.change(("room", 0, (5, 1)))
        self.assertEqual(state_of(other), state)
        self.no_undo(other)
        other.change(("size", 0, (1, 1)))
        self.assertEqual((one.count(), other.count()), (2, 1))
        self.assertEqual(one.ring()[0][0], (5, 1))
        self.assertEqual(other.ring()[0][0], (1, 1))
