"""[8.2], [8.3], [8.4], [0.4] Trees for a wish."""

import itertools
import random
import unittest
from fractions import Fraction

from ringloads.errors import LoadError, NoTree
from ringloads.trees import counted_in, look_at_tree
from tests.by_hand import all_ways, best_number, broken_by_hand, count_by_hand, first_wrong, some_tree, some_wish
from tests.samples import (
    every_cut, full_rings, long_rings, most_shown, odd_things, plain_ring, shown_number, small_rings, spoilings, told,
    told_anew,
)

LITTLE = Fraction(1, 10 ** 9)
LEAF = ("cut", 0, 1)


def lasting_ring(asks):
    """A ring and a wish for which LEAF stands under whatever asks are fixed."""
    ring = plain_ring(2, [(0, 1, 1)] * asks)
    return ring, ((0, 1), False, [None] * asks, 0)


def tree_of(splits, k=0, leaf=LEAF):
    """A tree with so many splits, as flat as may be."""
    if splits == 0:
        return leaf
    on = splits // 2
    return ("split", k, tree_of(on, k + 1, leaf), tree_of(splits - 1 - on, k + 1, leaf))


def tuples_in(tree, way=()):
    """All tuples of a tree with their ways, as it is gone through."""
    found = [(list(way), tree)]
    if tree[0] == "split":
        found.extend(tuples_in(tree[2], way + ("on",)))
        found.extend(tuples_in(tree[3], way + ("back",)))
    return found


def with_put(tree, way, thing):
    """The tree with a thing put where a way leads."""
    if not way:
        return thing
    number = 2 if way[0] == "on" else 3
    return tree[:number] + (with_put(tree[number], way[1:], thing),) + tree[number + 1:]


class Trees(unittest.TestCase):
    def refused(self, ring, wish, thing, way):
        for step in range(2):
            with self.assertRaises(NoTree) as caught:
                look_at_tree(ring, wish, thing)
            self.assertIsInstance(caught.exception, LoadError)
            self.assertIs(type(caught.exception.way), list)
            self.assertEqual(caught.exception.way, way, (ring, wish, thing))
            caught.exception.way.append("on")

    def check(self, ring, wish, thing):
        """Check what is told of a thing against the points' words; tell whether it is let by."""
        wrong = first_wrong(ring, wish, thing)
        if wrong is None:
            self.assertIsNone(look_at_tree(ring, wish, thing))
            return True
        self.refused(ring, wish, thing, wrong)
        return False


class LookAtTree(Trees):
    def test_many_trees(self):
        chance = random.Random(82)
        let_by = 0
        for ring in small_rings(120):
            best = best_number(ring)
            for step in range(8):
                wish = some_wish(chance, ring, [best, most_shown(ring), best / 2])
                for rightness in (1.0, 0.9):
                    thing = some_tree(chance, ring, wish, None, rightness)
                    if self.check(ring, wish, thing):
                        let_by += 1
                        kept = [ways for ways in all_ways(ring) if broken_by_hand(ring, wish, ways) is None]
                        self.assertEqual(kept, [], (ring, wish, thing))
        self.assertGreater(let_by, 300)

    def test_trees_of_full_rings_and_long_figures(self):
        chance = random.Random(821)
        for ring in full_rings(12) + long_rings():
            shown = most_shown(ring)
            for top in (shown, max(shown - LITTLE, 0), shown + LITTLE):
                for strict in (True, False):
                    elder = [chance.choice([None, "on", "back"]) for ask in ring[1]]
                    wish = (told(top), strict, elder, 20)
                    for cut in every_cut(ring)[::5]:
                        self.check(ring, wish, ("cut",) + cut)
                        for k in range(0, len(ring[1]), 7):
                            self.check(ring, wish, ("split", k, ("cut",) + cut, ("cut",) + cut[::-1]))

    def test_all_cuts_just_at_the_bound(self):
        for ring in small_rings(40):
            for cut in every_cut(ring):
                shown = shown_number(ring, cut)
                tree = ("cut",) + cut
                elder = [None] * len(ring[1])
                self.assertIsNone(look_at_tree(ring, (told(shown), True, elder, 0), tree))
                self.refused(ring, (told(shown), False, elder, 0), tree, [])
                self.refused(ring, (told(shown + LITTLE), True, elder, 0), tree, [])
                if shown > 0:
                    self.assertIsNone(look_at_tree(ring, (told(shown - shown * LITTLE), False, elder, 0), tree))

    def test_fixed_asks_load_the_ties(self):
        ring = plain_ring(4, [(0, 2, 3), (1, 3, 1)])
        elder = [None, None]
        right = ("split", 0, ("cut", 0, 0), ("cut", 2, 2))
        self.assertIsNone(look_at_tree(ring, ((3, 1), True, elder, 0), right))
        self.refused(ring, ((3, 1), False, elder, 0), right, ["on"])
        self.assertIsNone(look_at_tree(ring, ((2, 1), False, elder, 0), right))
        self.refused(ring, ((3, 1), True, elder, 0), ("split", 0, ("cut", 0, 0), ("cut", 0, 0)), ["back"])
        self.refused(ring, ((3, 1), True, elder, 0), ("split", 0, ("cut", 2, 2), ("cut", 2, 2)), ["on"])

    def test_asks_that_are_not_fixed_go_across(self):
        ring = plain_ring(4, [(0, 2, 3), (1, 3, 1)])
        elder = [None, None]
        # Across ties 0 and 2 go both asks, whichever way: 4 in all.
        for tree in (("cut", 0, 2), ("split", 0, ("cut", 0, 2), ("cut", 0, 2)), ("split", 1, ("cut", 0, 2), ("cut", 0, 2))):
            self.assertIsNone(look_at_tree(ring, ((2, 1), True, elder, 0), tree))
            self.refused(ring, ((2, 1), False, elder, 0), tree, [] if tree[0] == "cut" else ["on"])
        # Across ties 0 and 1 goes the second ask alone; the first one comes over both of them on, over none back.
        wish = ((7, 2), True, elder, 0)
        self.assertIsNone(look_at_tree(ring, wish, ("split", 0, ("cut", 0, 1), ("cut", 2, 3))))
        self.refused(ring, wish, ("split", 0, ("cut", 0, 1), ("cut", 0, 1)), ["back"])
        self.refused(ring, ((7, 2), False, elder, 0), ("split", 0, ("cut", 0, 1), ("cut", 2, 3)), ["on"])

    def test_a_cut_of_one_tie_twice(self):
        ring = ([(1, 1), (3, 1)], [("a", 0, 1, (4, 1)), ("b", 1, 0, (2, 1))])
        elder = [None, None]
        for g in range(2):
            self.refused(ring, ((0, 1), False, elder, 0), ("cut", g, g), [])
            self.assertIsNone(look_at_tree(ring, ((0, 1), True, elder, 0), ("cut", g, g)))
        first = ("split", 0, ("cut", 0, 0), ("cut", 1, 1))
        self.assertIsNone(look_at_tree(ring, ((4, 3), True, elder, 0), first))
        self.refused(ring, ((4, 3), False, elder, 0), first, ["back"])
        self.refused(ring, ((4, 1), False, elder, 0), first, ["on"])
        self.refused(ring, ((5, 1), True, elder, 0), first, ["on"])

    def test_turned(self):
        ring = plain_ring(4, [(0, 2, 1)] * 3)
        for elder in (["on"] * 3, ["back"] * 3, ["on", None, "back"], [None] * 3):
            for most in (0, 1, 2, 3, 20):
                wish = ((9, 1), False, elder, most)
                self.refused(ring, wish, ("turned",), [])
                for order in itertools.permutations(range(3)):
                    leaf = ("turned",)
                    self.check(ring, wish, ("split", order[0], leaf, leaf))
                    inner = ("split", order[1], leaf, ("split", order[2], leaf, leaf))
                    self.check(ring, wish, ("split", order[0], inner, inner))
        # Just as many turned as most, and one more.
        wish = ((0, 1), False, ["back"] * 3, 1)
        last = ("cut", 0, 2)
        self.refused(ring, wish, ("split", 0, ("turned",), last), ["on"])
        self.assertIsNone(look_at_tree(ring, wish, ("split", 0, ("split", 1, ("turned",), last), last)))
        self.refused(ring, wish, ("split", 0, ("split", 1, last, ("turned",)), last), ["on", "back"])
        alone = ((0, 1), False, ["back", None, None], 0)
        self.assertIsNone(look_at_tree(ring, alone, ("split", 0, ("turned",), last)))
        self.refused(ring, alone, ("split", 1, ("turned",), last), ["on"])

    def test_a_split_of_a_fixed_ask(self):
        ring, wish = lasting_ring(2)
        twice = ("split", 0, LEAF, LEAF)
        self.assertIsNone(look_at_tree(ring, wish, twice))
        self.refused(ring, wish, ("split", 0, twice, LEAF), ["on"])
        self.refused(ring, wish, ("split", 0, LEAF, twice), ["back"])
        self.assertIsNone(look_at_tree(ring, wish, ("split", 1, twice, twice)))
        self.refused(ring, wish, ("split", 1, ("split", 0, twice, LEAF), twice), ["on", "on"])
        self.refused(ring, wish, ("split", 1, twice, ("split", 0, LEAF, ("split", 1, LEAF, LEAF))), ["back", "back"])

    def test_asks_and_ties_that_are_none(self):
        ring, wish = lasting_ring(2)
        for k in (-1, 2, 3, 19, True, False, None, "0", (0,), [0]):
            self.refused(ring, wish, ("split", k, LEAF, LEAF), [])
        for g, h in ((1, 0), (0, 2), (-1, 1), (-2, -1), (False, 1), (0, True), (None, 1), (0, "1"), ((0,), 1)):
            self.refused(ring, wish, ("cut", g, h), [])
        self.refused(ring, wish, ("cut", (0, 1)), [])

    def test_three_hundred_tuples_and_one_more(self):
        ring, wish = lasting_ring(20)
        self.assertIsNone(look_at_tree(ring, wish, tree_of(149)))
        # Trees have an odd count of tuples: 299 are within, of 301 the last one is the three hundred and first.
        tree = tree_of(150)
        walk = tuples_in(tree)
        self.assertEqual(len(walk), 301)
        self.refused(ring, wish, tree, walk[300][0])
        for thing in (None, ("turned",), [], ("cut", 9, 9), ("split", 19, LEAF, LEAF), ("split", 0, LEAF, LEAF)):
            self.refused(ring, wish, with_put(tree, walk[300][0], thing), walk[300][0])
        leaves = [number for number in range(300) if walk[number][1] == LEAF]
        for number in (leaves[0], leaves[70], leaves[-1]):
            self.refused(ring, wish, with_put(tree, walk[number][0], None), walk[number][0])
            spoilt = with_put(with_put(tree, walk[300][0], None), walk[number][0], None)
            self.refused(ring, wish, spoilt, walk[number][0])
        self.assertIn(299, leaves)
        for splits in (151, 200, 400):
            tree = tree_of(splits)
            self.refused(ring, wish, tree, tuples_in(tree)[300][0])

    def test_the_three_hundred_and_first_may_be_a_split(self):
        ring, wish = lasting_ring(20)
        for splits in range(151, 190):
            walk = tuples_in(tree_of(splits))
            if walk[300][1] != LEAF:
                self.refused(ring, wish, tree_of(splits), walk[300][0])
                return
        self.fail("none of the trees has a split there")

    def test_a_tuple_that_stands_several_times(self):
        ring, wish = lasting_ring(20)
        tree = LEAF
        for k in range(20):
            tree = ("split", k, tree, tree)
            self.check(ring, wish, tree)
        tree = LEAF
        for k in range(7):
            tree = ("split", k, tree, tree)
        self.assertIsNone(look_at_tree(ring, wish, tree))
        self.refused(ring, wish, ("split", 7, tree, tree), ["back"] + first_wrong_of_rest(tree))

    def test_a_deep_tree(self):
        ring, wish = lasting_ring(20)
        on = LEAF
        back = LEAF
        for k in range(20):
            on = ("split", k, on, LEAF)
            back = ("split", k, LEAF, back)
        self.assertIsNone(look_at_tree(ring, wish, on))
        self.assertIsNone(look_at_tree(ring, wish, back))
        self.refused(ring, wish, with_put(on, ["on"] * 20, None), ["on"] * 20)
        self.refused(ring, wish, with_put(back, ["back"] * 20, None), ["back"] * 20)
        deeper = LEAF
        for step in range(200):
            deeper = ("split", step % 20, deeper, LEAF)
        self.refused(ring, wish, deeper, ["on"] * 20)

    def test_the_first_of_several_spoilt_ones(self):
        ring, wish = lasting_ring(20)
        tree = tree_of(7)
        walk = tuples_in(tree)
        leaves = [way for way, here in walk if here == LEAF]
        for first, second in itertools.combinations(leaves, 2):
            spoilt = with_put(with_put(tree, second, ("turned",)), first, None)
            self.refused(ring, wish, spoilt, first)
        # A split comes ahead of its trees.
        self.refused(ring, wish, ("split", 99, None, None), [])
        self.refused(ring, wish, ("split", 0, None, None), ["on"])
        self.refused(ring, wish, ("split", 0, LEAF, None), ["back"])
        self.refused(ring, wish, ("split", 0, ("split", 0, None, None), None), ["on"])
        self.refused(ring, wish, ("split", 0, ("split", 1, LEAF, None), None), ["on", "back"])

    def test_one_thing_spoilt_at_each_place(self):
        ring = plain_ring(4, [(0, 2, 3), (1, 3, 1), (2, 1, 0)])
        wish = ((2, 1), True, ["back", "on", None], 0)
        right = ("split", 0, ("turned",), ("split", 1, ("cut", 2, 2), ("turned",)))
        self.assertIsNone(look_at_tree(ring, wish, right))
        for thing in spoilings(right):
            self.check(ring, wish, thing)

    def test_things_of_other_kinds(self):
        ring, wish = lasting_ring(3)
        for thing in odd_things():
            self.refused(ring, wish, thing, [])
            self.refused(ring, wish, ("split", 0, thing, thing), ["on"])
            self.refused(ring, wish, ("split", 0, LEAF, thing), ["back"])
            self.check(ring, wish, ("split", thing, LEAF, LEAF))
            self.check(ring, wish, ("cut", thing, 1))
            self.check(ring, wish, ("cut", 0, thing))
            self.check(ring, wish, (thing,))
            self.check(ring, wish, (thing, 0, 1))
            self.check(ring, wish, (thing, 0, LEAF, LEAF))
        wrong = [
            ["cut", 0, 1], ("cut", 0), ("cut", 0, 1, 1), ("cut",), "cut", ("Cut", 0, 1), ("turned", 0), ["turned"],
            ("split", 0, LEAF), ("split", 0, LEAF, LEAF, LEAF), ["split", 0, LEAF, LEAF], ("split", LEAF, LEAF), LEAF[1:],
            (LEAF,), ("leaf", 0, 1), ("cut", [0, 1]), {"cut": (0, 1)},
        ]
        for thing in wrong:
            self.refused(ring, wish, thing, [])
            self.refused(ring, wish, ("split", 1, LEAF, ("split", 0, thing, LEAF)), ["back", "on"])

    def test_no_asks(self):
        for places in (2, 12):
            ring = plain_ring(places, [])
            for g, h in every_cut(ring):
                self.assertIsNone(look_at_tree(ring, ((0, 1), True, [], 0), ("cut", g, h)))
                self.refused(ring, ((0, 1), False, [], 0), ("cut", g, h), [])
            self.refused(ring, ((0, 1), True, [], 0), ("turned",), [])
            self.refused(ring, ((0, 1), True, [], 0), ("split", 0, ("cut", 0, 0), ("cut", 0, 0)), [])

    def test_what_is_handed_in_stays(self):
        ring, wish = lasting_ring(3)
        told_anew(self, look_at_tree, (ring, wish, tree_of(5)))
        for thing in ([["cut", 0, 1]], ("split", 0, [1], LEAF)):
            kept = (list(ring[0]), list(ring[1]))
            self.refused(ring, wish, thing, first_wrong(ring, wish, thing))
            self.assertEqual(ring, kept)
        self.assertEqual(thing, ("split", 0, [1], LEAF))


def first_wrong_of_rest(tree):
    """The way to the tuple of a tree that is the three hundred and first, where root and an alike tree go ahead."""
    walk = tuples_in(tree)
    return walk[300 - 1 - len(walk)][0]


class CountedIn(unittest.TestCase):
    def test_examples(self):
        self.assertEqual(counted_in(("cut", 0, 1)), (1, 0, 0))
        self.assertEqual(counted_in(("cut", 11, 0)), (1, 0, 0))
        self.assertEqual(counted_in(("turned",)), (0, 1, 0))
        self.assertEqual(counted_in(("split", 0, ("turned",), ("turned",))), (0, 2, 1))
        self.assertEqual(counted_in(("split", 0, ("cut", 3, 1), ("split", 0, ("turned",), LEAF))), (2, 1, 2))

    def test_many_trees(self):
        chance = random.Random(84)
        for ring in small_rings(60):
            wish = some_wish(chance, ring, [best_number(ring)])
            tree = some_tree(chance, ring, wish)
            answer = counted_in(tree)
            self.assertIs(type(answer), tuple)
            self.assertTrue(all([type(count) is int for count in answer]))
            self.assertEqual(answer, count_by_hand(tree))

    def test_as_often_as_it_stands(self):
        tree = ("turned",)
        for depth in range(7):
            tree = ("split", depth, tree, tree)
            self.assertEqual(counted_in(tree), (0, 2 ** (depth + 1), 2 ** (depth + 1) - 1))

    def test_three_hundred_tuples_and_twenty_splits_deep(self):
        self.assertEqual(counted_in(tree_of(149)), (150, 0, 149))
        self.assertEqual(counted_in(tree_of(149, 0, ("turned",))), (0, 150, 149))
        deep = LEAF
        for k in range(20):
            deep = ("split", k, ("turned",), deep)
        self.assertEqual(counted_in(deep), (1, 20, 20))

    def test_what_is_handed_in_stays(self):
        told_anew(self, counted_in, (tree_of(9),))
