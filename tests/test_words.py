"""Integers, letters and ratios: points 0.1, 0.4, 0.5 and 1.3."""

import copy
import unittest
from fractions import Fraction
from math import gcd

from grownquorums.base import words
from grownquorums.base.words import is_count, is_integer, is_less, is_letter, is_ratio, lowest
from grownquorums.errors import InvalidNumber, InvalidOperation
from tests.plain import FULL_INTEGERS, LONG_INTEGERS, ODD_VALUES, PLAIN_VALUES

FIGURES_399 = (10 ** 398, 10 ** 399 - 1, -(10 ** 398), 1 - 10 ** 399)
INTEGERS = (0, 1, -1, 2, -2, 10, 255, -255, 2 ** 64, -(2 ** 64)) + FIGURES_399 + FULL_INTEGERS
NO_INTEGERS = ODD_VALUES + LONG_INTEGERS + (True, False, "0", "a", "1", (), (0,), (2, 4), [0, 1], {0: 0})
NO_RATIOS = NO_INTEGERS + INTEGERS + (
    (1,), (1, 2, 3), ((1, 2),), [1, 2], {1: 2}, "12", (0, 2), (0, -1), (0, 0), (1, 0), (1, -2), (-1, -2),
    (3, 3), (-2, 4), (True, 1), (1, True), (False, 1), (True, True), (None, 1), (1, None), ("1", 2), (1, "2"),
    ((1,), 2), (1, [2]), (10 ** 400, 1), (1, 10 ** 400), (-(10 ** 400), 1), (1, 7 ** 9000), (10 ** 399, 10 ** 398),
)
RATIOS = ((0, 1), (1, 1), (-1, 1), (5, 1), (1, 2), (-1, 2), (-7, 3), (10 ** 400 - 1, 1), (1 - 10 ** 400, 1),
          (1, 10 ** 400 - 1), (10 ** 399, 10 ** 400 - 1), (10 ** 400 - 1, 10 ** 399))


class Example(unittest.TestCase):
    def test_the_example_of_the_document(self):
        self.assertEqual(
            [is_integer(True), is_count(-1), is_letter("A"), is_ratio((2, 4)), lowest(6, -4), lowest(0, 7),
             is_less((1, 3), (3, 8))],
            [False, False, False, False, (-3, 2), (0, 1), True])

    def test_constant(self):
        self.assertEqual(words.MAX_FIGURES, 400)

    def test_names_are_defined_here(self):
        for function in (is_integer, is_count, is_letter, is_ratio, lowest, is_less):
            self.assertEqual(function.__module__, "grownquorums.base.words")


class Integers(unittest.TestCase):
    def test_integers(self):
        for value in INTEGERS:
            self.assertIs(is_integer(value), True)

    def test_no_integers(self):
        for value in NO_INTEGERS:
            self.assertIs(is_integer(value), False)

    def test_counts(self):
        for value in INTEGERS:
            self.assertIs(is_count(value), value >= 0)
        for value in NO_INTEGERS:
            self.assertIs(is_count(value), False)


class Letters(unittest.TestCase):
    def test_letters(self):
        for letter in "abcdefghijklmnopqrstuvwxyz":
            self.assertIs(is_letter(letter), True)

    def test_other_signs(self):
        for number in list(range(97)) + list(range(123, 400)):
            self.assertIs(is_letter(chr(number)), False, number)

    def test_no_letters(self):
        for value in ODD_VALUES + INTEGERS + LONG_INTEGERS + (True, False, "", "ab", "a ", " a", "a\n", ("a",), ["a"]):
            self.assertIs(is_letter(value), False)


class Ratios(unittest.TestCase):
    def test_all_small_pairs(self):
        for top in range(-12, 13):
            for bottom in range(-12, 13):
                expected = bottom >= 1 and gcd(top, bottom) == 1
                self.assertIs(is_ratio((top, bottom)), expected, (top, bottom))

    def test_ratios(self):
        for value in RATIOS:
            self.assertIs(is_ratio(value), True)

    def test_no_ratios(self):
        for value in NO_RATIOS:
            self.assertIs(is_ratio(value), False)


class Lowest(unittest.TestCase):
    def test_all_small_pairs(self):
        for top in range(-24, 25):
            for bottom in list(range(-24, 0)) + list(range(1, 25)):
                fraction = Fraction(top, bottom)
                ratio = lowest(top, bottom)
                self.assertEqual(ratio, (fraction.numerator, fraction.denominator))
                self.assertIs(is_ratio(ratio), True)

    def test_nothing_is_one_ratio(self):
        for bottom in (1, -1, 7, -7, 10 ** 399, -(10 ** 399)):
            self.assertEqual(lowest(0, bottom), (0, 1))

    def test_equal_fractions(self):
        for factor in (1, -1, 2, -2, 30, 10 ** 390, -(10 ** 390)):
            self.assertEqual(lowest(3 * factor, 7 * factor), (3, 7))
            self.assertEqual(lowest(-3 * factor, 7 * factor), (-3, 7))

    def test_integers_of_many_figures(self):
        many = [value for value in INTEGERS if value]
        for top in many:
            for bottom in many:
                fraction = Fraction(top, bottom)
                self.assertEqual(lowest(top, bottom), (fraction.numerator, fraction.denominator))

    def refused(self, top, bottom):
        with self.assertRaises(InvalidNumber) as caught:
            lowest(top, bottom)
        self.assertIs(type(caught.exception), InvalidNumber)
        return caught.exception.value

    def test_wrong_top(self):
        for top in NO_INTEGERS:
            self.assertIs(self.refused(top, 3), top)

    def test_wrong_bottom(self):
        for bottom in NO_INTEGERS + (0,):
            self.assertIs(self.refused(3, bottom), bottom)
            self.assertIs(self.refused(0, bottom), bottom)

    def test_of_two_wrong_ones_the_first_is_told(self):
        for top in NO_INTEGERS:
            for bottom in NO_INTEGERS + (0,):
                self.assertIs(self.refused(top, bottom), top)


class Less(unittest.TestCase):
    def test_both_orders(self):
        ratios = list(RATIOS) + [lowest(top, bottom) for top in range(-6, 7) for bottom in range(1, 7)]
        for one in ratios:
            for other in ratios:
                self.assertIs(is_less(one, other), Fraction(*one) < Fraction(*other))

    def test_equal_ratios(self):
        for ratio in RATIOS:
            self.assertIs(is_less(ratio, ratio), False)

    def test_no_ratios(self):
        for value in NO_RATIOS:
            for one, other in ((value, (1, 2)), ((1, 2), value), (value, value)):
                with self.assertRaises(InvalidOperation) as caught:
                    is_less(one, other)
                self.assertIs(type(caught.exception), InvalidOperation)


class Unchanged(unittest.TestCase):
    def test_what_is_passed_stays_as_it_is(self):
        values = PLAIN_VALUES + (([1, {2: 3}], 1), ([4], {5: [6]}))
        before = copy.deepcopy(values)
        for value in values:
            for function in (is_integer, is_count, is_letter, is_ratio):
                self.assertIs(function(value), function(value))
            self.assertRaises(InvalidNumber, lowest, value, value)
            self.assertRaises(InvalidOperation, is_less, value, value)
        self.assertEqual(values, before)


if __name__ == "__main__":
    unittest.main()
