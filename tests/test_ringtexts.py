"""[13.1], [13.2], [0.4] (h) Fractions and rings written and read."""

import random
import unittest

from ringloads.errors import LoadError, NoText
from ringloads.ringtexts import read_ratio, read_ring, shown_ratio, shown_ring
from tests.samples import (
    SIXTY, full_rings, long_ratio, long_rings, many_rings, name_of, no_list_shared, plain_ring, small_ratio, told,
    told_anew,
)
from tests.texts_by_hand import no_texts, ratio_by_hand, ring_by_hand, same_kinds, spoilt_texts

TEXT = "rooms 1 3/2 12\nask ann 0 1 3/4\nask bob 2 1 0"
RING = ([(1, 1), (3, 2), (12, 1)], [("ann", 0, 1, (3, 4)), ("bob", 2, 1, (0, 1))])


class Texts(unittest.TestCase):
    def refused(self, ask, thing, row):
        with self.assertRaises(NoText, msg=repr(thing)) as caught:
            ask(thing)
        self.assertIsInstance(caught.exception, LoadError)
        self.assertEqual(caught.exception.row, row, repr(thing))
        self.assertIs(type(caught.exception.row), int)


class Ratios(Texts):
    def check(self, text):
        asked = ratio_by_hand(text)
        if asked is None:
            self.refused(read_ratio, text, 0)
            return False
        same_kinds(self, read_ratio(text), asked)
        self.assertEqual(shown_ratio(asked), text)
        return True

    def test_written_and_read(self):
        chance = random.Random(131)
        some = [small_ratio(chance, True) for step in range(100)] + [long_ratio(chance, True) for step in range(20)]
        some = some + [(-top, bottom) for top, bottom in some] + [(0, 1), (1, 1), (-1, 1), (1, 2), (-1, 2), (10, 1), (1, 10)]
        for one in some:
            text = shown_ratio(one)
            self.assertIs(type(text), str)
            same_kinds(self, read_ratio(text), one)
            self.assertTrue(self.check(text))

    def test_examples(self):
        pairs = [("0", (0, 1)), ("-1", (-1, 1)), ("12", (12, 1)), ("3/4", (3, 4)), ("-3/4", (-3, 4)), ("100/99", (100, 99))]
        for text, one in pairs:
            self.assertEqual(shown_ratio(one), text)
            self.assertEqual(read_ratio(text), one)

    def test_what_writes_none(self):
        wrong = [
            "", "-", "/", "-0", "00", "01", "-01", "2/4", "3/1", "0/1", "0/2", "-0/1", "1/0", "0/0", "1/-2", "-1/-2", "+1",
            " 1", "1 ", "1\n", "\n1", "\t1", "1\t", "1/ 2", "1 /2", "1//2", "1/2/3", "1/", "/2", "1/02", "01/2", "--1", "1-",
            "1.0", "1e3", "1_0", "0x1", "one", "a", "1,2", "(1, 2)", "1/2\n", "1/2 ", "-1/0", "- 1", "4/2", "-2/4", "1/1", "-1/1",
        ]
        for text in wrong:
            self.refused(read_ratio, text, 0)

    def test_sixty_figures_and_sixty_one(self):
        for figures in (59, 60, 61, 62, 200):
            long = 10 ** (figures - 1)
            for one in ((long, 1), (-long, 1), (1, long), (-1, long), (long + 1, long), (-long - 1, long)):
                text = shown_ratio(one)
                self.assertEqual(text, str(one[0]) if one[1] == 1 else f"{one[0]}/{one[1]}")
                if figures <= 60:
                    same_kinds(self, read_ratio(text), one)
                else:
                    self.refused(read_ratio, text, 0)
        self.assertEqual(read_ratio("-" + "9" * 60), (-SIXTY, 1))
        self.refused(read_ratio, "0" * 61, 0)
        self.refused(read_ratio, "9" * 4500, 0)
        self.refused(read_ratio, "1/" + "9" * 4500, 0)

    def test_four_thousand_figures_are_written(self):
        self.assertEqual(shown_ratio((10 ** 3999, 1)), "1" + "0" * 3999)

    def test_texts_spoilt(self):
        for text in ("0", "7", "-12", "3/4", "-10/7", "9" * 60, "1" * 60 + "/" + "2" * 59 + "3"):
            for spoilt in spoilt_texts(text):
                self.check(spoilt)

    def test_things_of_other_kinds(self):
        for thing in no_texts() + [1, (1, 1), (1, 2)]:
            self.refused(read_ratio, thing, 0)


class Rings(Texts):
    def check(self, text):
        """Check what read_ring tells of a text; tell the row, or None where it is a ring's writing."""
        asked = ring_by_hand(text)
        if type(asked) is int:
            self.refused(read_ring, text, asked)
            return asked
        same_kinds(self, read_ring(text), asked)
        self.assertEqual(shown_ring(asked), text)
        return None

    def test_written_and_read(self):
        for ring in many_rings() + full_rings(3) + long_rings():
            text = shown_ring(ring)
            self.assertIs(type(text), str)
            same_kinds(self, read_ring(text), ring)
            self.assertIsNone(self.check(text))
            no_list_shared(self, read_ring(text))

    def test_examples(self):
        self.assertEqual(shown_ring(RING), TEXT)
        self.assertEqual(read_ring(TEXT), RING)
        self.assertEqual(shown_ring(plain_ring(2, [])), "rooms 1 1")
        self.assertEqual(read_ring("rooms 1 1"), plain_ring(2, []))

    def test_twelve_rooms_and_twenty_asks(self):
        ring = ([(11, 2)] * 12, [(name_of(k), k % 12, (k + 11) % 12, (k, 1)) for k in range(20)])
        text = shown_ring(ring)
        self.assertEqual(len(text.split("\n")), 21)
        self.assertEqual(read_ring(text), ring)
        self.refused(read_ring, text + "\nask zz 0 1 1", 21)
        self.refused(read_ring, text + "\nask zz 0 1 1\nask zz", 21)
        self.refused(read_ring, text.replace("\n", " 1\n", 1), 0)
        self.refused(read_ring, text + "\n", 21)

    def test_rows_of_rooms(self):
        wrong = [
            "", " ", "-", "rooms", "rooms ", "rooms 1", "rooms 1 ", "rooms 1 1 ", " rooms 1 1", "rooms  1 1", "rooms 1  1",
            "rooms\t1 1", "rooms 1\t1", "Rooms 1 1", "room 1 1", "roomss 1 1", "rooms1 1 1", "rooms 0 1", "rooms 1 0", "rooms 1 -1",
            "rooms 1 2/4", "rooms 1 3/1", "rooms 1 01", "rooms 1 +1", "rooms 1 a", "rooms 1,1", "rooms 1 -0", "1 1",
            "rooms" + " 1" * 13, "rooms 1 " + "1" * 61, "rooms 1 1/" + "1" * 61, "ask a 0 1 1", "rooms 1 1\r",
        ]
        for row in wrong:
            self.refused(read_ring, row, 0)
            self.refused(read_ring, row + "\nask a 0 1 1", 0)
            self.refused(read_ring, row + "\n", 0)
            self.refused(read_ring, row + "\nask", 0)
        for row in ("rooms 1 1", "rooms" + " 1" * 12, "rooms 1 " + "1" * 60, "rooms 1/2 2/3"):
            self.assertIsNone(self.check(row))

    def test_rows_of_asks(self):
        wrong = [
            "", " ", "ask", "ask ", "ask c", "ask c 0", "ask c 0 1", "ask c 0 1 ", "ask c 0 1 1 ", " ask c 0 1 1", "ask  c 0 1 1",
            "ask c  0 1 1", "ask c 0  1 1", "ask c 0 1  1", "ask\tc 0 1 1", "ask c\t0 1 1", "Ask c 0 1 1", "asks c 0 1 1",
            "ask C 0 1 1", "ask c1 0 1 1", "ask abcdefghi 0 1 1", "ask ann 0 1 1", "ask bob 0 1 1", "ask c 0 0 1", "ask c 3 1 1",
            "ask c 1 3 1", "ask c -1 1 1", "ask c 00 1 1", "ask c 0 01 1", "ask c -0 1 1", "ask c 0/1 1 1", "ask c 0 1/1 1",
            "ask c 0 1 -1", "ask c 0 1 2/4", "ask c 0 1 3/1", "ask c 0 1 -0", "ask c 0 1 01", "ask c 0 1 +1", "ask c 0 1 1 1",
            "ask c 0 1 " + "1" * 61, "ask c 0 1 1/" + "1" * 61, "c 0 1 1", "rooms 1 1 1", "ask c 1/2 1 1", "ask c 0 a 1", "ask c 0 1 a",
        ]
        for row in wrong:
            self.refused(read_ring, TEXT + "\n" + row, 3)
            self.refused(read_ring, TEXT + "\n" + row + "\nask d 0 1 1", 3)
            self.refused(read_ring, TEXT + "\n" + row + "\n", 3)
            self.refused(read_ring, TEXT + "\nask d 0 1 1\n" + row, 4)
            if row not in ("ask ann 0 1 1", "ask bob 0 1 1"):
                self.refused(read_ring, "rooms 1 1 1\n" + row + "\n" + row, 1)
        for row in ("ask c 0 1 1", "ask abcdefgh 2 0 0", "ask c 1 2 " + "1" * 60, "ask c 1 2 1/" + "1" * 60):
            self.assertIsNone(self.check(TEXT + "\n" + row))

    def test_places_of_two_figures(self):
        rows = "rooms" + " 1" * 11
        self.assertIsNone(self.check(rows + "\nask a 10 0 1"))
        self.refused(read_ring, rows + "\nask a 11 0 1", 1)
        self.assertIsNone(self.check(rows + " 1\nask a 11 10 1"))
        self.refused(read_ring, rows + " 1\nask a 12 0 1", 1)

    def test_of_several_wrong_rows_the_first(self):
        rows = ["rooms 1 1"] + [f"ask {name_of(k)} 0 1 {k}" for k in range(20)]
        self.assertIsNone(self.check("\n".join(rows)))
        for first in range(21):
            for second in range(first, 21, 3):
                spoilt = list(rows)
                spoilt[second] = "ask z 5 5 5"
                spoilt[first] = spoilt[first] + " "
                self.refused(read_ring, "\n".join(spoilt), first)
        twice = list(rows)
        twice[7] = rows[3]
        twice[12] = ""
        self.refused(read_ring, "\n".join(twice), 7)

    def test_texts_spoilt(self):
        rows = []
        for text in (TEXT, "rooms 1 1", "rooms 1/2 2 10\nask abcdefgh 2 0 1/3\nask b 1 0 7"):
            self.assertIsNone(self.check(text))
            for spoilt in spoilt_texts(text):
                rows.append(self.check(spoilt))
        for row in (0, 1, 2, 3, None):
            self.assertIn(row, rows)

    def test_texts_cut_off_amid_a_row(self):
        for number in range(len(TEXT)):
            row = self.check(TEXT[:number])
            if row is not None:
                self.assertEqual(row, TEXT[:number].count("\n"))

    def test_longer_figures_are_written_but_not_read(self):
        long = 10 ** 60
        for ring, row in (
            (([(1, 1), (long, 1)], []), 0),
            (([(1, 1), (1, 1)], [("a", 0, 1, (1, 1)), ("b", 0, 1, (1, long))]), 2),
            (([(1, 1), (1, 1)], [("a", 0, 1, (long, 1)), ("b", 0, 1, (1, long))]), 1),
        ):
            text = shown_ring(ring)
            self.assertIn(str(long), text)
            self.refused(read_ring, text, row)
        self.assertEqual(read_ring(shown_ring(([told(long - 1)] * 2, []))), ([told(long - 1)] * 2, []))

    def test_things_of_other_kinds(self):
        for thing in no_texts() + [RING, [TEXT], (TEXT,), TEXT.encode(), TEXT.split("\n")]:
            self.refused(read_ring, thing, 0)

    def test_what_is_handed_in_stays(self):
        told_anew(self, shown_ring, (RING,))
        told_anew(self, read_ring, (TEXT,))
