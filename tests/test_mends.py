"""[10.1] to [10.4], [0.4] (e) Mends of ways by a change."""

import copy
import random
import unittest
from fractions import Fraction

from ringloads.best import best_ways
from ringloads.changes import carried, changed
from ringloads.errors import LoadError, NoChange, TooMany
from ringloads.mends import lets_mend, mend_of
from tests.by_hand import all_ways, first_wrong, some_tree, turned_by_hand
from tests.samples import (
    are_ways_to_the_kind, full_rings, has_form_of_ratio, long_ratio, name_of, no_list_shared, number_of, odd_things,
    plain_ring, small_ratio, small_rings, some_ring, spoilings, told, told_anew, top_number, unit_room, whole_ratio,
    whole_sending,
)
from tests.test_changes import change_by_hand
from tests.test_trees import tree_of

LITTLE = Fraction(1, 10 ** 9)


def carried_by_hand(ring, ways, change):
    """The changed ring and, for each of its asks, its way or None."""
    made, numbers = change_by_hand(ring, change)
    return made, [None if k is None else ways[k] for k in numbers]


def are_just_by_hand(thing, numbers):
    return type(thing) is list and all([type(one) is int for one in thing]) and thing == numbers


def is_mend_by_hand(ring, ways, change, thing):
    """Whether a thing is a mend, to the kinds and forms."""
    made, elder = carried_by_hand(ring, ways, change)
    if type(thing) is not tuple or len(thing) != 5 or not has_form_of_ratio(thing[0]):
        return False
    top, after, turned, tree, other = thing
    if not are_ways_to_the_kind(made, after) or top_number(made, whole_sending(made, after)) != number_of(top):
        return False
    if not are_just_by_hand(turned, turned_by_hand(elder, after)):
        return False
    if first_wrong(made, (top, True, elder, 20), tree) is not None:
        return False
    if not turned:
        return other is None
    return first_wrong(made, (top, False, elder, len(turned) - 1), other) is None


def some_ways(chance, ring):
    return [chance.choice(["on", "back"]) for ask in ring[1]]


def some_changes(chance, ring):
    """A change of each kind that the ring has, and one that leaves all as it was."""
    changes = []
    places = len(ring[0])
    if len(ring[1]) < 20:
        one, other = chance.sample(range(places), 2)
        changes.append(("more", ("zzz", one, other, small_ratio(chance, True))))
    tie = chance.randrange(places)
    changes.append(("room", tie, small_ratio(chance, False)))
    changes.append(("room", tie, ring[0][tie]))
    if ring[1]:
        k = chance.randrange(len(ring[1]))
        changes.append(("gone", k))
        changes.append(("size", k, small_ratio(chance, True)))
        changes.append(("size", k, ring[1][k][3]))
    return changes


def even_ring(asks, on):
    """A ring of two places, asks of one, of which so many go on, and ways of it."""
    return plain_ring(2, [(0, 1, 1)] * asks), ["on"] * on + ["back"] * (asks - on)


def tree_against_none_turned(on, leaf=("turned",)):
    """A tree that shows that ways that turn none have too much on the first tie; leaf stands where ask 0 is turned."""
    tree = ("cut", 0, 0)
    for k in reversed(range(on)):
        tree = ("split", k, tree, leaf if k == 0 else ("turned",))
    return tree


class Mends(unittest.TestCase):
    def check(self, ring, ways, change):
        """Check what mend_of tells of a change of the ring."""
        answer = mend_of(ring, ways, change)
        self.assertTrue(is_mend_by_hand(ring, ways, change, answer), (ring, ways, change, answer))
        self.assertIs(lets_mend(ring, ways, change, answer), True)
        made, elder = carried_by_hand(ring, ways, change)
        tops = [(top_number(made, whole_sending(made, some)), len(turned_by_hand(elder, some))) for some in all_ways(made)]
        self.assertEqual((number_of(answer[0]), len(answer[2])), min(tops), (ring, ways, change))
        self.assertEqual(best_ways(made)[0], answer[0])
        return answer

    def refused(self, error, ring, ways, change):
        kept = copy.deepcopy((ring, ways))
        with self.assertRaises(error, msg=repr(change)) as caught:
            mend_of(ring, ways, change)
        self.assertIsInstance(caught.exception, LoadError)
        self.assertEqual((ring, ways), kept)

    def lets(self, ring, ways, change, thing):
        """Check what lets_mend tells of a thing; tell it."""
        asked = is_mend_by_hand(ring, ways, change, thing)
        self.assertIs(lets_mend(ring, ways, change, thing), asked, (ring, ways, change, thing))
        return asked


class MendOf(Mends):
    def test_small_rings(self):
        chance = random.Random(1001)
        turned = [0] * 8
        for ring in small_rings(120):
            for ways in (some_ways(chance, ring), best_ways(ring)[1]):
                for change in some_changes(chance, ring):
                    turned[len(self.check(ring, ways, change)[2])] += 1
        self.assertTrue(all(turned[:4]), turned)

    def test_rings_of_seven_asks_behind_the_change(self):
        chance = random.Random(1002)
        for number in range(18):
            ratio_of = (small_ratio, whole_ratio, unit_room)[number % 3]
            places = chance.randint(2, 12)
            for asks, kinds in ((6, ("more",)), (7, ("gone", "size", "room")), (8, ("gone",))):
                ring = some_ring(chance, places, asks, ratio_of)
                for change in some_changes(chance, ring):
                    if change[0] in kinds:
                        self.check(ring, some_ways(chance, ring), change)

    def test_seven_and_eight_asks_behind_a_change(self):
        for places in (2, 12):
            for asks in (7, 8, 9, 19, 20):
                ring = plain_ring(places, [(0, 1, 1)] * asks)
                ways = ["on"] * asks
                for change in (("size", asks - 1, (2, 1)), ("room", 0, (2, 1)), ("gone", 0), ("more", ("zz", 0, 1, (1, 1)))):
                    behind = asks + {"gone": -1, "more": 1}.get(change[0], 0)
                    if behind <= 7:
                        self.check(ring, ways, change)
                    else:
                        self.refused(TooMany if behind <= 20 else NoChange, ring, ways, change)

    def test_no_change_ahead_of_too_many(self):
        for ring in full_rings(2) + [plain_ring(2, [(0, 1, 1)] * asks) for asks in (8, 20)]:
            ways = ["on"] * len(ring[1])
            for change in (None, ("gone", 20), ("gone", True), ("size", 0, (-1, 1)), ("room", 0, (0, 1)), ("more", ring[1][0])):
                self.refused(NoChange, ring, ways, change)
            self.refused(TooMany, ring, ways, ("size", 0, ring[1][0][3]))

    def test_things_that_are_no_change(self):
        ring = plain_ring(3, [(0, 1, 1), (1, 2, 1)])
        for thing in odd_things():
            self.refused(NoChange, ring, ["on", "on"], thing)
        for right in (("more", ("d", 2, 1, (7, 2))), ("gone", 1), ("size", 1, (5, 3)), ("room", 1, (5, 3))):
            for thing in spoilings(right):
                if change_by_hand(ring, thing) is None:
                    self.refused(NoChange, ring, ["on", "on"], thing)
                else:
                    self.check(ring, ["on", "on"], thing)

    def test_a_change_that_leaves_all_as_it_was(self):
        for ring in small_rings(60):
            top, ways, tree = best_ways(ring)
            changes = [("room", 0, ring[0][0])] + [("size", k, ask[3]) for k, ask in enumerate(ring[1])]
            for change in changes:
                answer = self.check(ring, ways, change)
                self.assertEqual(answer[:3], (top, ways, []))
                self.assertIsNone(answer[4])

    def test_no_asks(self):
        for places in (2, 11, 12):
            ring = plain_ring(places, [])
            answer = self.check(ring, [], ("room", places - 1, (3, 1)))
            self.assertEqual(answer[:3], ((0, 1), [], []))
            self.assertIsNone(answer[4])
            self.assertEqual(self.check(ring, [], ("more", ("a", 0, 1, (1, 1))))[2], [])
            alone = plain_ring(places, [(0, 1, 5)])
            for ways in (["on"], ["back"]):
                self.assertEqual(self.check(alone, ways, ("gone", 0))[:3], ((0, 1), [], []))

    def test_an_ask_more_is_never_turned(self):
        ring = plain_ring(2, [])
        for one, other in ((0, 1), (1, 0)):
            self.assertEqual(self.check(ring, [], ("more", ("a", one, other, (1, 1))))[2], [])
        ring = ([(1, 1), (9, 1)], [("a", 0, 1, (1, 1))])
        answer = self.check(ring, ["back"], ("more", ("b", 0, 1, (1, 1))))
        self.assertEqual(answer[:3], ((2, 9), ["back", "back"], []))

    def test_examples(self):
        # Four go on and three back; one goes that went back: two must go on, one of them turned.
        ring, ways = even_ring(7, 4)
        answer = self.check(ring, ways, ("gone", 6))
        self.assertEqual((answer[0], len(answer[2])), ((3, 1), 1))
        answer = self.check(ring, ways, ("gone", 0))
        self.assertEqual((answer[0], answer[2], answer[4]), ((3, 1), [], None))
        # All go on: three of them must be turned, and three will do.
        answer = self.check(ring, ["on"] * 7, ("size", 0, (1, 1)))
        self.assertEqual((answer[0], len(answer[2])), ((4, 1), 3))
        # A wide tie takes all: each of the six that go the other way is turned.
        answer = self.check(plain_ring(2, [(0, 1, 1)] * 6), ["on"] * 6, ("room", 1, (99, 1)))
        self.assertEqual(answer[:3], ((2, 33), ["back"] * 6, [0, 1, 2, 3, 4, 5]))
        # Of size nought no ask need be turned.
        answer = self.check(plain_ring(2, [(0, 1, 0)] * 6), ["on"] * 6, ("room", 1, (99, 1)))
        self.assertEqual(answer[:3], ((0, 1), ["on"] * 6, []))

    def test_sixty_figures(self):
        chance = random.Random(1003)
        for places, asks in ((2, 6), (5, 4), (12, 6)):
            ring = some_ring(chance, places, asks, long_ratio)
            for change in (("more", ("zz", 0, 1, long_ratio(chance, True))), ("size", 1, long_ratio(chance, True)), ("gone", 0)):
                self.check(ring, some_ways(chance, ring), change)

    def test_what_is_handed_in_stays(self):
        chance = random.Random(1004)
        for ring in small_rings(30):
            ways = some_ways(chance, ring)
            for change in some_changes(chance, ring):
                answer = told_anew(self, mend_of, (ring, ways, change))
                no_list_shared(self, mend_of(ring, ways, change), ring, ways)
                told_anew(self, lets_mend, (ring, ways, change, answer))

    def test_elder_ways_are_not_told_as_the_new_ones(self):
        ring, ways = even_ring(4, 2)
        answer = mend_of(ring, ways, ("size", 0, (1, 1)))
        self.assertEqual(answer[1], ways)
        self.assertIsNot(answer[1], ways)


class LetsMend(Mends):
    def test_no_change_ahead_of_all_else(self):
        ring = plain_ring(3, [(0, 1, 1), (1, 2, 1)])
        right = mend_of(ring, ["on", "on"], ("gone", 0))
        for change in odd_things() + [("gone", 2), ("size", 0, (2, 2)), ["gone", 0], ("gone", 0, 0), ("gone", True)]:
            for thing in (right, None, 5, (), []):
                with self.assertRaises(NoChange, msg=repr(change)) as caught:
                    lets_mend(ring, ["on", "on"], change, thing)
                self.assertIsInstance(caught.exception, LoadError)
        full = plain_ring(12, [(0, 1, 1)] * 20)
        for change in (("more", ("zz", 0, 1, (1, 1))), ("gone", 20), None):
            with self.assertRaises(NoChange):
                lets_mend(full, ["on"] * 20, change, None)

    def test_whoever_wrote_it(self):
        chance = random.Random(1005)
        let_by = 0
        for ring in small_rings(90):
            ways = some_ways(chance, ring)
            for change in chance.sample(some_changes(chance, ring), 2):
                made, elder = carried_by_hand(ring, ways, change)
                few = min([(top_number(made, whole_sending(made, some)), len(turned_by_hand(elder, some)))
                           for some in all_ways(made)])
                for after in all_ways(made)[::5] + [mend_of(ring, ways, change)[1]]:
                    top = told(top_number(made, whole_sending(made, after)))
                    turned = turned_by_hand(elder, after)
                    tree = some_tree(chance, made, (top, True, elder, 20))
                    other = some_tree(chance, made, (top, False, elder, len(turned) - 1)) if turned else None
                    if self.lets(ring, ways, change, (top, after, turned, tree, other)):
                        let_by += 1
                        self.assertEqual((number_of(top), len(turned)), few)
        self.assertGreater(let_by, 60)

    def test_one_thing_spoilt_at_each_place(self):
        chance = random.Random(1006)
        for ring in small_rings(6) + [even_ring(4, 4)[0], plain_ring(2, [])]:
            ways = ["on"] * len(ring[1])
            for change in chance.sample(some_changes(chance, ring), 2):
                right = mend_of(ring, ways, change)
                self.assertTrue(self.lets(ring, ways, change, right))
                for thing in spoilings(right):
                    self.lets(ring, ways, change, thing)

    def test_things_of_other_kinds(self):
        ring, ways = even_ring(4, 4)
        change = ("size", 0, (1, 1))
        right = mend_of(ring, ways, change)
        for thing in odd_things():
            self.assertIs(lets_mend(ring, ways, change, thing), False, repr(thing))
            for number in range(5):
                spoilt = right[:number] + (thing,) + right[number + 1:]
                self.assertIs(lets_mend(ring, ways, change, spoilt), False, repr(thing))
        for thing in (list(right), right[:4], right + (None,), (right,), ()):
            self.assertIs(lets_mend(ring, ways, change, thing), False, thing)

    def test_tops(self):
        ring, ways = even_ring(4, 3)
        change = ("size", 3, (1, 1))
        top, after, turned, tree, other = mend_of(ring, ways, change)
        self.assertEqual(top, (2, 1))
        for wrong in ((4, 2), (-2, -1), [2, 1], 2, (2, True), told(2 + LITTLE), told(2 - LITTLE), (1, 1), (3, 1)):
            self.assertIs(lets_mend(ring, ways, change, (wrong, after, turned, tree, other)), False, wrong)

    def test_turned_lists(self):
        ring, ways = even_ring(4, 4)
        change = ("size", 3, (1, 1))
        right = mend_of(ring, ways, change)
        after = ["on", "back", "on", "back"]
        for some, turned in ((after, [1, 3]), (["back", "back", "on", "on"], [0, 1])):
            thing = (right[0], some, turned) + right[3:]
            self.assertIs(lets_mend(ring, ways, change, thing), True)
        self.assertIs(lets_mend(ring, ways, change, (right[0], ["back", "back", "on", "on"], [0, True]) + right[3:]), False)
        self.assertIs(lets_mend(ring, ways, change, (right[0], ["back", "back", "on", "on"], [False, 1]) + right[3:]), False)
        wrong = [[3, 1], [1], [3], [], [1, 3, 3], [1, 2, 3], [1, 2], (1, 3), [1, 3, None], None, {1: 3}, ["1", "3"], [0, 2]]
        for turned in wrong:
            self.assertIs(lets_mend(ring, ways, change, (right[0], after, turned) + right[3:]), False, turned)

    def test_more_turned_than_must_be(self):
        ring, ways = even_ring(4, 2)
        change = ("size", 3, (1, 1))
        top, after, turned, tree, other = mend_of(ring, ways, change)
        self.assertEqual((turned, other), ([], None))
        # Two turned would keep the top, too, and no tree shows that none turned would not.
        swapped = ["back", "on", "on", "back"]
        for leaf in (("turned",), ("cut", 0, 1), tree_against_none_turned(2), None):
            self.assertIs(lets_mend(ring, ways, change, (top, swapped, [0, 2], tree, leaf)), False)

    def test_none_where_a_tree_is_due_and_a_tree_where_none_is(self):
        ring, ways = even_ring(4, 3)
        change = ("size", 3, (1, 1))
        top, after, turned, tree, other = mend_of(ring, ways, change)
        self.assertEqual(len(turned), 1)
        self.assertIs(lets_mend(ring, ways, change, (top, after, turned, tree, tree_against_none_turned(3))), True)
        self.assertIs(lets_mend(ring, ways, change, (top, after, turned, tree, None)), False)
        self.assertIs(lets_mend(ring, ways, change, (top, after, turned, None, other)), False)
        even, halves = even_ring(4, 2)
        self.assertIs(lets_mend(even, halves, change, (top, halves, [], tree, None)), True)
        for wrong in (tree, other, ("turned",), ("cut", 0, 1), False, 0, (), []):
            self.assertIs(lets_mend(even, halves, change, (top, halves, [], tree, wrong)), False, wrong)

    def test_trees_for_another_wish(self):
        ring, ways = even_ring(4, 3)
        change = ("size", 3, (1, 1))
        top, after, turned, tree, other = mend_of(ring, ways, change)
        # The cut shows just the top: enough against a lesser one, not against the top itself.
        self.assertIs(lets_mend(ring, ways, change, (top, after, turned, ("cut", 0, 1), other)), True)
        self.assertIs(lets_mend(ring, ways, change, (top, after, turned, tree, ("cut", 0, 1))), False)
        # No ask is turned too much where twenty may be.
        self.assertIs(lets_mend(ring, ways, change, (top, after, turned, other, other)), False)
        self.assertIs(lets_mend(ring, ways, change, (top, after, turned, ("turned",), other)), False)
        # A tree against one turned is none against two turned.
        far = even_ring(4, 4)[1]
        answer = mend_of(ring, far, change)
        self.assertEqual(len(answer[2]), 2)
        self.assertIs(lets_mend(ring, far, change, answer[:4] + (other,)), False)

    def test_ways_of_a_greater_top(self):
        ring, ways = even_ring(4, 3)
        change = ("size", 3, (1, 1))
        tree = mend_of(ring, ways, change)[3]
        self.assertIs(lets_mend(ring, ways, change, ((3, 1), ways, [], tree, None)), False)
        self.assertIs(lets_mend(ring, ways, change, ((2, 1), ways, [], tree, None)), False)

    def test_rings_of_more_than_seven_asks(self):
        for asks in (8, 14, 20):
            half = asks // 2
            ring, ways = even_ring(asks, half + 1)
            tree = ("cut", 0, 1)
            other = tree_against_none_turned(half + 1)
            after = ["back"] + ways[1:]
            for change in (("size", 0, (1, 1)), ("room", 1, (1, 1))):
                self.assertTrue(self.lets(ring, ways, change, ((half, 1), after, [0], tree, other)))
                self.assertFalse(self.lets(ring, ways, change, ((half, 1), after, [0], tree, None)))
                self.assertFalse(self.lets(ring, ways, change, ((half, 1), after, [1], tree, other)))
                self.assertFalse(self.lets(ring, ways, change, ((half + 1, 1), ways, [], tree, None)))
            if asks < 20:
                wider = plain_ring(2, [(0, 1, 1)] * (asks + 1))
                change = ("more", (name_of(asks), 0, 1, (0, 1)))
                self.assertTrue(self.lets(ring, ways, change, ((half, 1), after + ["on"], [0], tree, other)))
                self.assertFalse(self.lets(ring, ways, change, ((half, 1), after, [0], tree, other)))
                self.assertTrue(self.lets(wider, ways + ["on"], ("gone", asks), ((half, 1), after, [0], tree, other)))

    def test_trees_of_more_than_three_hundred_tuples(self):
        ring, ways = even_ring(20, 11)
        change = ("size", 0, (1, 1))
        after = ["back"] + ways[1:]
        tree = ("cut", 0, 1)
        other = tree_against_none_turned(11)
        for splits, asked in ((149, True), (150, False), (200, False)):
            self.assertIs(lets_mend(ring, ways, change, ((10, 1), after, [0], tree_of(splits), other)), asked)
        # Eleven splits, ten turneds and the cut stand beside what stands where ask 0 is turned.
        for splits, asked in ((138, True), (139, False), (200, False)):
            deep = tree_against_none_turned(11, tree_of(splits, 1, ("turned",)))
            self.assertIs(lets_mend(ring, ways, change, ((10, 1), after, [0], tree, deep)), asked)

    def test_against_the_changed_ring(self):
        ring = plain_ring(2, [(0, 1, 1), (0, 1, 1), (0, 1, 5)])
        ways = ["on", "on", "back"]
        change = ("gone", 2)
        self.assertEqual(carried(ring, change, ways), ["on", "on"])
        self.assertEqual(len(changed(ring, change)[1]), 2)
        tree, other = ("cut", 0, 1), tree_against_none_turned(2)
        self.assertIs(lets_mend(ring, ways, change, ((1, 1), ["on", "back"], [1], tree, other)), True)
        self.assertIs(lets_mend(ring, ways, change, ((1, 1), ["back", "on"], [0], tree, other)), True)
        self.assertIs(lets_mend(ring, ways, change, ((5, 1), ways, [], tree, None)), False)
        # What went back behind the ask that is gone still counts as going back.
        self.assertIs(lets_mend(ring, ["back"] + ways[1:], ("gone", 2), ((1, 1), ["back", "on"], [], tree, None)), True)
