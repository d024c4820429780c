"""[1.1] Fractions: made, refused, reckoned with, compared, summed."""

import operator
import random
import unittest
from fractions import Fraction

from ringloads.errors import NoNumber
from ringloads.ratios import greater, lesser, minus, over, plus, ratio, sum_of, times, under
from tests.samples import SIXTY, has_form_of_ratio, long_ratio, number_of, odd_things, told


def small():
    return sorted({told(Fraction(top, bottom)) for top in range(-6, 7) for bottom in range(1, 6)})


def long_ones():
    chance = random.Random(11)
    made = [(SIXTY, 1), (-SIXTY, 1), (1, SIXTY), (SIXTY, SIXTY - 1), (0, 1), (1, 1)]
    for step in range(20):
        top, bottom = long_ratio(chance, True)
        made.append((chance.choice([-1, 1]) * top, bottom))
    return made


class Made(unittest.TestCase):
    def check(self, top, bottom):
        made = ratio(top, bottom)
        self.assertTrue(has_form_of_ratio(made), (top, bottom, made))
        self.assertEqual(made, told(Fraction(top, bottom)), (top, bottom))

    def test_all_small_ones(self):
        for top in range(-30, 31):
            for bottom in range(-30, 31):
                if bottom != 0:
                    self.check(top, bottom)

    def test_examples(self):
        self.assertEqual(ratio(2, 4), (1, 2))
        self.assertEqual(ratio(-2, 4), (-1, 2))
        self.assertEqual(ratio(2, -4), (-1, 2))
        self.assertEqual(ratio(-2, -4), (1, 2))
        self.assertEqual(ratio(7, 1), (7, 1))
        self.assertEqual(ratio(7, -1), (-7, 1))

    def test_nought_is_nought_parts_of_one(self):
        for bottom in (1, 2, 9, -1, -9, SIXTY, -SIXTY):
            self.assertEqual(ratio(0, bottom), (0, 1))

    def test_sixty_figures(self):
        for one in long_ones():
            for factor in (1, -1, 6, -35, SIXTY):
                self.check(one[0] * factor, one[1] * factor)
        self.assertEqual(ratio(SIXTY, SIXTY), (1, 1))
        self.assertEqual(ratio(SIXTY, -3), (-SIXTY // 3, 1))

    def test_a_bottom_of_nought_is_refused(self):
        for top in (-1, 0, 1, SIXTY):
            with self.assertRaises(NoNumber):
                ratio(top, 0)

    def test_true_and_false_are_no_numbers(self):
        for top, bottom in ((True, 1), (False, 1), (1, True), (1, False), (True, True), (0, False), (2, True)):
            with self.assertRaises(NoNumber):
                ratio(top, bottom)

    def test_things_of_other_kinds_are_refused(self):
        for thing in odd_things():
            if type(thing) is int:
                continue
            for top, bottom in ((thing, 1), (1, thing), (thing, thing), (thing, 0), (0, thing)):
                with self.assertRaises(NoNumber):
                    ratio(top, bottom)


class Reckoned(unittest.TestCase):
    def check(self, do, by, one, other):
        answer = do(one, other)
        self.assertTrue(has_form_of_ratio(answer), (do, one, other, answer))
        self.assertEqual(answer, told(by(number_of(one), number_of(other))), (do, one, other))

    def check_all(self, some):
        for one in some:
            for other in some:
                self.check(plus, operator.add, one, other)
                self.check(minus, operator.sub, one, other)
                self.check(times, operator.mul, one, other)
                self.check(greater, max, one, other)
                self.check(lesser, min, one, other)
                if other[0] != 0:
                    self.check(over, operator.truediv, one, other)
                less = number_of(one) < number_of(other)
                self.assertIs(under(one, other), less, (one, other))

    def test_small_ones(self):
        self.check_all(small())

    def test_sixty_figures(self):
        self.check_all(long_ones())

    def test_examples(self):
        self.assertEqual(plus((1, 2), (1, 3)), (5, 6))
        self.assertEqual(plus((1, 2), (1, 2)), (1, 1))
        self.assertEqual(plus((1, 2), (-1, 2)), (0, 1))
        self.assertEqual(minus((1, 2), (1, 3)), (1, 6))
        self.assertEqual(minus((1, 3), (1, 2)), (-1, 6))
        self.assertEqual(times((2, 3), (3, 4)), (1, 2))
        self.assertEqual(over((1, 2), (-3, 4)), (-2, 3))
        self.assertIs(under((1, 3), (1, 2)), True)
        self.assertIs(under((1, 2), (1, 2)), False)
        self.assertIs(under((-1, 2), (-1, 3)), True)
        self.assertEqual(greater((1, 3), (1, 2)), (1, 2))
        self.assertEqual(lesser((1, 3), (1, 2)), (1, 3))

    def test_nothing_is_parted_by_nought(self):
        for one in small():
            with self.assertRaises(NoNumber):
                over(one, (0, 1))

    def test_numbers_that_grew_here_are_taken(self):
        grown = long_ones()[7]
        for step in range(4):
            grown = times(grown, grown)
        self.assertEqual(over(grown, grown), (1, 1))
        self.assertEqual(minus(grown, grown), (0, 1))


class Summed(unittest.TestCase):
    def test_the_sum_of_none(self):
        self.assertEqual(sum_of([]), (0, 1))
        self.assertEqual(sum_of(()), (0, 1))

    def test_lists_and_tuples(self):
        chance = random.Random(12)
        for some in (small(), long_ones()):
            for many in (1, 2, 3, 10):
                drawn = [chance.choice(some) for step in range(many)]
                answer = sum_of(drawn)
                self.assertTrue(has_form_of_ratio(answer))
                self.assertEqual(answer, told(sum([number_of(one) for one in drawn])))
                self.assertEqual(sum_of(tuple(drawn)), answer)

    def test_the_list_stays_as_it_was(self):
        some = [(1, 2), (1, 3), (1, 6)]
        self.assertEqual(sum_of(some), (1, 1))
        self.assertEqual(some, [(1, 2), (1, 3), (1, 6)])
        self.assertEqual(sum_of(some), (1, 1))
