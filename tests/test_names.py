"""[1.2], [0.2] What is told of any thing: a whole number, a fraction, a name."""

import unittest
from fractions import Fraction
from math import gcd

from ringloads.names import is_name, is_ratio, is_whole
from tests.samples import SIXTY, has_form_of_ratio, odd_things


class Wholes(unittest.TestCase):
    def test_whole_numbers(self):
        for number in (0, 1, -1, 7, -12, SIXTY, -SIXTY):
            self.assertIs(is_whole(number), True)

    def test_true_and_false_are_none(self):
        self.assertIs(is_whole(True), False)
        self.assertIs(is_whole(False), False)

    def test_other_kinds(self):
        for thing in odd_things():
            self.assertIs(is_whole(thing), type(thing) is int, repr(thing))
        for thing in ("1", [1], (1,), {1: 1}, Fraction(2), None):
            self.assertIs(is_whole(thing), False)


class Ratios(unittest.TestCase):
    def test_all_small_pairs(self):
        for top in range(-15, 16):
            for bottom in range(-15, 16):
                asked = bottom >= 1 and gcd(top, bottom) == 1
                self.assertIs(is_ratio((top, bottom)), asked, (top, bottom))

    def test_nought(self):
        self.assertIs(is_ratio((0, 1)), True)
        for bottom in (0, 2, -1, SIXTY):
            self.assertIs(is_ratio((0, bottom)), False)

    def test_sixty_figures(self):
        self.assertIs(is_ratio((SIXTY, SIXTY - 1)), True)
        self.assertIs(is_ratio((-SIXTY, SIXTY - 1)), True)
        self.assertIs(is_ratio((SIXTY, 1)), True)
        self.assertIs(is_ratio((1, SIXTY)), True)
        self.assertIs(is_ratio((SIXTY, 3)), False)
        self.assertIs(is_ratio((SIXTY, SIXTY)), False)

    def test_other_forms(self):
        for thing in ((), (1,), (1, 2, 3), [1, 2], "12", (True, 1), (1, True), (False, 1), (0, True), ("1", 2), (1, "2"),
                      (1, None), ((1, 2), 1), (1, (1, 2)), {1: 2, 3: 4}, 1, Fraction(1, 2)):
            self.assertIs(is_ratio(thing), False, repr(thing))

    def test_other_kinds(self):
        for thing in odd_things():
            self.assertIs(is_ratio(thing), has_form_of_ratio(thing), repr(thing))
            self.assertIs(is_ratio((thing, 1)), type(thing) is int, repr(thing))
            self.assertIs(is_ratio((1, thing)), type(thing) is int and thing >= 1, repr(thing))


class Names(unittest.TestCase):
    def test_each_letter(self):
        for letter in "abcdefghijklmnopqrstuvwxyz":
            self.assertIs(is_name(letter), True)

    def test_all_other_signs(self):
        for number in range(0, 1000):
            sign = chr(number)
            asked = "a" <= sign <= "z"
            for text in (sign, "a" + sign, sign + "a", "a" + sign + "a", "abcdefg" + sign):
                self.assertIs(is_name(text), asked, repr(text))

    def test_lengths(self):
        for many in range(1, 9):
            self.assertIs(is_name("z" * many), True)
        for many in (0, 9, 10, 20, 5000):
            self.assertIs(is_name("z" * many), False)

    def test_texts_that_are_none(self):
        for text in ("", " ", "A", "aB", "a1", "a b", "a_b", "a-b", "a\n", "\na", "a\tb", " a", "a "):
            self.assertIs(is_name(text), False, repr(text))

    def test_other_kinds(self):
        for thing in odd_things():
            asked = type(thing) is str and thing in ("a", "on", "back", "ring")
            self.assertIs(is_name(thing), asked, repr(thing))
        for thing in (["a"], ("a",), {"a": "a"}, b"a", {"a"}, ["a", "b"]):
            self.assertIs(is_name(thing), False, repr(thing))
