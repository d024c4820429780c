"""[13.3], [0.4] (h) Sendings, ways, slides and trees written and read by their form alone."""

import random
import unittest

from ringloads.best import best_ways
from ringloads.errors import LoadError, NoText
from ringloads.leasts import least_top
from ringloads.papertexts import (
    read_sending, read_slides, read_tree, read_ways, shown_sending, shown_slides, shown_tree, shown_ways,
)
from ringloads.slides import slides_for
from tests.samples import (
    full_rings, long_ratio, many_rings, parted_sending, small_ratio, small_rings, some_sending, told_anew,
)
from tests.test_search import rings_of_seven
from tests.texts_by_hand import (
    no_texts, same_kinds, sending_by_hand, slides_by_hand, spoilt_texts, tree_by_hand, ways_by_hand,
)

LONG = "1" * 60


def some_form(chance, deep):
    """A tree by its form, drawn by chance."""
    draw = chance.random()
    if deep == 0 or draw < 0.3:
        return ("turned",) if draw < 0.1 else ("cut", chance.randrange(12), chance.randrange(12))
    return ("split", chance.randrange(20), some_form(chance, deep - 1), some_form(chance, deep - 1))


def deep_tree(splits, side):
    """A tree of so many splits within one another, on the one side or the other, or to and fro."""
    tree = ("cut", 11, 0)
    for k in range(splits):
        on = side == "on" or side == "both" and k % 2 == 0
        tree = ("split", k % 20, tree, ("turned",)) if on else ("split", k % 20, ("turned",), tree)
    return tree


def some_slides(chance, many, ratio_of):
    """Slides by their form, drawn by chance."""
    ways = ["on", "back"]
    slides = []
    for step in range(many):
        top, bottom = ratio_of(chance, True)
        amount = (chance.choice([top, -top]), bottom)
        slides.append((chance.randrange(20), chance.choice(ways), chance.randrange(20), chance.choice(ways), amount))
    return slides


class Papers(unittest.TestCase):
    def refused(self, ask, thing):
        with self.assertRaises(NoText, msg=repr(thing)) as caught:
            ask(thing)
        self.assertIsInstance(caught.exception, LoadError)
        self.assertEqual(caught.exception.row, 0)
        self.assertIs(type(caught.exception.row), int)

    def there_and_back(self, thing):
        """Check that what is written is read to the same; tell the text."""
        text = self.shown(thing)
        self.assertIs(type(text), str)
        same_kinds(self, self.read(text), thing)
        same_kinds(self, self.by_hand(text), thing)
        return text

    def check(self, text):
        """Check what is read of a text that may write none; tell whether it does."""
        asked = self.by_hand(text)
        if asked is None:
            self.refused(self.read, text)
            return False
        same_kinds(self, self.read(text), asked)
        self.assertEqual(self.shown(asked), text)
        return True

    def refused_all(self, wrong):
        for text in wrong:
            self.refused(self.read, text)
            self.assertIsNone(self.by_hand(text), text)

    def of_other_kinds(self, right):
        for thing in no_texts() + [right, [self.shown(right)], (self.shown(right),), self.shown(right).encode()]:
            self.refused(self.read, thing)

    def handed_in_stays(self, right):
        told_anew(self, self.shown, (right,))
        told_anew(self, self.read, (self.shown(right),))

    def spoilt(self, texts):
        read = 0
        for text in texts:
            self.assertTrue(self.check(text), text)
            for spoilt in spoilt_texts(text):
                read += self.check(spoilt)
        self.assertGreater(read, 0)


class Sendings(Papers):
    def shown(self, thing):
        return shown_sending(thing)

    def read(self, text):
        return read_sending(text)

    def by_hand(self, text):
        return sending_by_hand(text)

    def test_written_and_read(self):
        chance = random.Random(1331)
        for ring in many_rings() + full_rings(3):
            self.there_and_back(some_sending(chance, ring))
        for many in range(21):
            some = [long_ratio(chance, True) for step in range(many)]
            self.there_and_back(some)
            self.there_and_back([(-top, bottom) for top, bottom in some])
        for ring in small_rings(60):
            self.there_and_back(least_top(ring)[1])

    def test_examples(self):
        self.assertEqual(shown_sending([(0, 1), (-1, 2), (12, 5)]), "0 -1/2 12/5")
        self.assertEqual(shown_sending([]), "-")
        self.assertEqual(read_sending("-"), [])
        self.assertEqual(read_sending("0"), [(0, 1)])
        self.assertEqual(read_sending("0 -1/2 12/5"), [(0, 1), (-1, 2), (12, 5)])

    def test_twenty_and_twenty_one(self):
        self.there_and_back([(k, 1) for k in range(20)])
        self.assertEqual(shown_sending([(1, 1)] * 21), " ".join(["1"] * 21))
        self.refused_all([" ".join(["1"] * many) for many in (21, 22, 100)])

    def test_what_writes_none(self):
        self.refused_all([
            "", " ", "- ", " -", "--", "- -", "-\n", "1 -", "- 1", "1  2", "1 2 ", " 1 2", "1\t2", "1\n2", "1, 2", "1,2", "-0", "1 01",
            "2/4 1", "3/1", "+1", "a", "1 on", "1 2\n", "[1, 2]", "1/0", LONG + "1", "1 1/" + LONG + "1",
        ])
        self.assertTrue(self.check(LONG + " 1/" + LONG))

    def test_longer_figures_are_written_but_not_read(self):
        text = shown_sending([(1, 1), (10 ** 60, 1)])
        self.assertEqual(text, "1 1" + "0" * 60)
        self.refused(read_sending, text)

    def test_texts_spoilt(self):
        self.spoilt(["-", "0 1/2 -3", "10/7", "1 " * 19 + "1"])

    def test_things_of_other_kinds_and_what_is_handed_in(self):
        self.of_other_kinds([(0, 1), (1, 2)])
        self.handed_in_stays([(0, 1), (1, 2)])
        self.handed_in_stays([])


class Ways(Papers):
    def shown(self, thing):
        return shown_ways(thing)

    def read(self, text):
        return read_ways(text)

    def by_hand(self, text):
        return ways_by_hand(text)

    def test_written_and_read(self):
        chance = random.Random(1332)
        for many in range(21):
            for step in range(5):
                self.there_and_back([chance.choice(["on", "back"]) for k in range(many)])

    def test_examples(self):
        self.assertEqual(shown_ways(["on", "back", "on"]), "on back on")
        self.assertEqual(shown_ways([]), "-")
        self.assertEqual(read_ways("-"), [])
        self.assertEqual(read_ways("back"), ["back"])

    def test_twenty_and_twenty_one(self):
        self.there_and_back(["on"] * 20)
        self.assertEqual(shown_ways(["on"] * 21), " ".join(["on"] * 21))
        self.refused_all([" ".join(["on"] * many) for many in (21, 22, 100)])

    def test_what_writes_none(self):
        self.refused_all([
            "", " ", "- ", " -", "on -", "- on", "on  back", "on back ", " on", "on\tback", "on\nback", "on, back", "On", "ON", "o",
            "onback", "none", "bac", "backs", "on\n", "1", "0", "None", "on,back",
        ])

    def test_texts_spoilt(self):
        self.spoilt(["-", "on", "back", "on back back on", "on " * 19 + "back"])

    def test_things_of_other_kinds_and_what_is_handed_in(self):
        self.of_other_kinds(["on", "back"])
        self.handed_in_stays(["on", "back"])
        self.handed_in_stays([])


class Slides(Papers):
    def shown(self, thing):
        return shown_slides(thing)

    def read(self, text):
        return read_slides(text)

    def by_hand(self, text):
        return slides_by_hand(text)

    def test_written_and_read(self):
        chance = random.Random(1333)
        for many in range(21):
            for ratio_of in (small_ratio, small_ratio, small_ratio, long_ratio):
                self.there_and_back(some_slides(chance, many, ratio_of))
        for ring in many_rings()[::2] + full_rings(5):
            self.there_and_back(slides_for(ring, parted_sending(chance, ring)))

    def test_examples(self):
        slides = [(0, "on", 19, "back", (1, 2)), (3, "back", 3, "back", (-7, 1))]
        self.assertEqual(shown_slides(slides), "0 on 19 back 1/2, 3 back 3 back -7")
        self.assertEqual(read_slides("0 on 19 back 1/2, 3 back 3 back -7"), slides)
        self.assertEqual(shown_slides([]), "-")
        self.assertEqual(read_slides("-"), [])
        self.assertEqual(read_slides("0 on 0 on 0"), [(0, "on", 0, "on", (0, 1))])

    def test_asks_of_nineteen_and_twenty(self):
        for k in range(25):
            self.assertEqual(self.check(f"{k} on 0 on 1"), k < 20)
            self.assertEqual(self.check(f"0 on {k} on 1"), k < 20)

    def test_twenty_and_twenty_one(self):
        one = "0 on 1 back 1"
        self.there_and_back([(0, "on", 1, "back", (1, 1))] * 20)
        self.assertEqual(shown_slides([(0, "on", 1, "back", (1, 1))] * 21), ", ".join([one] * 21))
        self.refused_all([", ".join([one] * many) for many in (21, 22, 100)])

    def test_what_writes_none(self):
        self.refused_all([
            "", " ", "- ", ", ", "0", "0 on 1 back", "0 on 1 back 1,", "0 on 1 back 1, ", ", 0 on 1 back 1", "0 on 1 back 1 ",
            " 0 on 1 back 1", "0  on 1 back 1", "0 on 1 back 1,0 on 1 back 1", "0 on 1 back 1 , 0 on 1 back 1",
            "0 on 1 back 1,  0 on 1 back 1", "0 on 1 back 1, -", "-, 0 on 1 back 1", "00 on 1 back 1", "-0 on 1 back 1",
            "-1 on 1 back 1", "0 on 1 back 2/4", "0 on 1 back 1/1", "0 on 1 back +1", "0 on 1 back -0", "0/1 on 1 back 1",
            "0 up 1 back 1", "0 on 1 On 1", "on 0 back 1 1", "0 on 1 back 1 2", "0 on 1 back 1\n", "0\ton 1 back 1",
            "0 on 1 back 1\n0 on 1 back 1", "0 on 1 back 1; 0 on 1 back 1", "0 on 1 back " + LONG + "1", "1/2 on 1 back 1",
        ])
        self.assertTrue(self.check("0 on 1 back " + LONG))

    def test_texts_spoilt(self):
        self.spoilt(["-", "0 on 1 back 1/2", "19 back 3 on -2, 4 on 4 back 0"])

    def test_things_of_other_kinds_and_what_is_handed_in(self):
        self.of_other_kinds([(0, "on", 1, "back", (1, 1))])
        self.handed_in_stays([(0, "on", 1, "back", (1, 1))])
        self.handed_in_stays([])


class Trees(Papers):
    def shown(self, thing):
        return shown_tree(thing)

    def read(self, text):
        return read_tree(text)

    def by_hand(self, text):
        return tree_by_hand(text)

    def test_written_and_read(self):
        chance = random.Random(1334)
        for step in range(150):
            self.there_and_back(some_form(chance, step % 7))
        for ring in small_rings(40) + rings_of_seven(12):
            self.there_and_back(best_ways(ring)[2])

    def test_examples(self):
        pairs = [
            ("cut 0 11", ("cut", 0, 11)), ("cut 11 0", ("cut", 11, 0)), ("turned", ("turned",)),
            ("split 19 [cut 3 3 | turned]", ("split", 19, ("cut", 3, 3), ("turned",))),
            (
                "split 0 [split 0 [turned | turned] | cut 1 2]",
                ("split", 0, ("split", 0, ("turned",), ("turned",)), ("cut", 1, 2)),
            ),
        ]
        for text, tree in pairs:
            self.assertEqual(shown_tree(tree), text)
            self.assertEqual(read_tree(text), tree)

    def test_ties_and_asks(self):
        for number in range(25):
            self.assertEqual(self.check(f"cut {number} 0"), number < 12)
            self.assertEqual(self.check(f"cut 0 {number}"), number < 12)
            self.assertEqual(self.check(f"split {number} [turned | turned]"), number < 20)

    def test_splits_within_one_another(self):
        for side in ("on", "back", "both"):
            for splits in (1, 19, 20):
                self.there_and_back(deep_tree(splits, side))
            for splits in (21, 22, 40, 150, 300):
                tree = deep_tree(splits, side)
                text = "cut 11 0"
                for k in range(splits):
                    on = side == "on" or side == "both" and k % 2 == 0
                    text = f"split {k % 20} [{text} | turned]" if on else f"split {k % 20} [turned | {text}]"
                self.refused(read_tree, text)
                if splits < 30:
                    self.assertEqual(shown_tree(tree), text)
        # Twenty within one another, and others beside them.
        wide = ("split", 0, deep_tree(19, "on"), deep_tree(19, "both"))
        self.there_and_back(wide)
        self.refused(read_tree, shown_tree(("split", 0, deep_tree(19, "on"), deep_tree(20, "back"))))
        self.refused(read_tree, shown_tree(("split", 0, deep_tree(20, "on"), deep_tree(19, "back"))))

    def test_texts_that_only_open(self):
        self.refused(read_tree, "split 0 [" * 500)
        self.refused(read_tree, "split 0 [" * 15 + "turned" + " | turned]" * 14)
        self.refused(read_tree, "split 0 [" * 14 + "turned" + " | turned]" * 15)
        self.refused(read_tree, "[" * 4000)
        self.refused(read_tree, "split 0 [turned" + "]" * 4000)
        self.refused(read_tree, " | " * 1500)

    def test_many_tuples(self):
        tree = ("cut", 0, 0)
        for k in range(8):
            tree = ("split", k, tree, tree)
        self.there_and_back(tree)

    def test_what_writes_none(self):
        self.refused_all([
            "", " ", "-", "cut", "cut ", "cut 0", "cut 0 ", "cut 0 1 ", "cut 0 1 2", " cut 0 1", "cut  0 1", "cut 0  1", "cut 00 1",
            "cut -0 1", "cut -1 1", "cut 0 12", "cut 12 0", "cut a 0", "cut\t0 1", "cut 0 1\n", "Cut 0 1", "cut 0,1", "cut (0, 1)",
            "turned ", " turned", "Turned", "turne", "turned turned", "turned,", "[turned]", "(turned)", "turned | turned",
            "split", "split ", "split 0", "split 0 ", "split 0 []", "split 0 [ | ]", "split 0 [turned]", "split 0 [turned | ]",
            "split 0 [ | turned]", "split 0 [turned | turned", "split 0 turned | turned]", "split 0[turned | turned]",
            "split 0  [turned | turned]", "split 0 [ turned | turned]", "split 0 [turned | turned ]", "split 0 [turned| turned]",
            "split 0 [turned |turned]", "split 0 [turned  | turned]", "split 0 [turned |  turned]", "split 0 [turned, turned]",
            "split 0 [turned | turned] ", "split 0 [turned | turned]]", "split 0 [[turned | turned]]", "split 0 [turned | turned]x",
            "split 0 [turned | turned | turned]", "split 20 [turned | turned]", "split -1 [turned | turned]",
            "split 00 [turned | turned]", "split a [turned | turned]", "split [turned | turned]", "split 0 0 [turned | turned]",
            "split 0 [turned] | turned]", "split 0 [turned | [turned]", "split 0 (turned | turned)", "0 [turned | turned]",
            "split 0 [turned\n| turned]", "split 0 [turned | turned]\n", "split 0\t[turned | turned]", "split 1/2 [turned | turned]",
            "split 0 [split 0 [turned | turned] | turned | turned]", "split 0 [cut 0 1] | [turned]", "Split 0 [turned | turned]",
            "split 0 [split 1 [turned | turned | turned]", "split 0 [turned | split 1 [turned | turned]",
        ])

    def test_texts_spoilt(self):
        self.spoilt(["turned", "cut 1 11", "split 1 [cut 0 1 | turned]", "split 3 [split 10 [turned | cut 4 5] | cut 7 0]"])

    def test_things_of_other_kinds_and_what_is_handed_in(self):
        tree = ("split", 0, ("cut", 0, 1), ("turned",))
        self.of_other_kinds(tree)
        self.handed_in_stays(tree)

    def test_figures_that_are_too_long(self):
        for text in ("cut " + "1" * 61 + " 0", "cut 0 " + "1" * 4500, "split " + "1" * 4500 + " [turned | turned]"):
            self.refused(read_tree, text)
