"""Integers and ratios [0.1], [1.3]."""

import math
import unittest
from fractions import Fraction

from ballgrids.base import numbers
from ballgrids.base.numbers import common_divisor, compare, is_integer, is_ratio, lowest, minus, plus, times
from ballgrids.errors import InvalidNumber, InvalidOperation
from tests.helper import LONG, MOST, WRONG, chance_of, outcome

WHOLE = (0, 1, -1, 7, MOST, -MOST)


def pair(fraction):
    return (fraction.numerator, fraction.denominator)


class Numbers(unittest.TestCase):
    def test_constant(self):
        self.assertEqual(numbers.MAX_NUMBERS, 100)

    def test_integers(self):
        for number in WHOLE:
            self.assertIs(is_integer(number), True)
        for wrong in WRONG + ((1, 2),):
            self.assertIs(is_integer(wrong), False)

    def test_ratios(self):
        for ratio in ((0, 1), (1, 1), (-1, 1), (-3, 2), (MOST, 1), (1, MOST), (-MOST, MOST - 1)):
            self.assertIs(is_ratio(ratio), True)
        for wrong in WRONG + (
                (0, 2), (0, -1), (0, 0), (1, 0), (2, 4), (1, -2), (-2, -3), (MOST, MOST), (LONG, 1), (1, LONG),
                (True, 2), (1, True), (0, True), (1, 2, 3), (1,), [1, 2], (1, None), ("1", 2), ((1, 2), 1), 1, 0):
            self.assertIs(is_ratio(wrong), False, wrong)

    def test_common_divisor(self):
        self.assertEqual(common_divisor((0,)), 0)
        self.assertEqual(common_divisor((0, 0, 0)), 0)
        self.assertEqual(common_divisor((-6,)), 6)
        self.assertEqual(common_divisor((0, -6, 4)), 2)
        self.assertEqual(common_divisor((MOST, -MOST)), MOST)
        self.assertEqual(common_divisor((5,) * 100), 5)
        chance = chance_of(1)
        for _ in range(100):
            told = tuple(chance.randint(-60, 60) * 6 for _ in range(chance.randint(1, 5)))
            self.assertEqual(common_divisor(told), math.gcd(*told))

    def test_common_divisor_of_wrong_values(self):
        for wrong in WRONG + ((5,) * 101, (LONG,), (1, True), (1, None), [4, 6], 4):
            self.assertIs(type(outcome(common_divisor, wrong)), InvalidOperation, wrong)

    def test_lowest(self):
        chance = chance_of(2)
        for _ in range(300):
            top, bottom = chance.randint(-30, 30), chance.choice((-1, 1)) * chance.randint(1, 30)
            self.assertEqual(lowest(top, bottom), pair(Fraction(top, bottom)))
        self.assertEqual(lowest(0, -5), (0, 1))
        self.assertEqual(lowest(MOST, -MOST), (-1, 1))
        self.assertEqual(lowest(-MOST, -1), (MOST, 1))

    def test_lowest_of_wrong_values(self):
        for wrong in WRONG + ((1, 2),):
            error = outcome(lowest, wrong, 3)
            self.assertIs(type(error), InvalidNumber)
            self.assertIs(error.given, wrong)
            error = outcome(lowest, 3, wrong)
            self.assertIs(type(error), InvalidNumber)
            self.assertIs(error.given, wrong)
            self.assertIs(outcome(lowest, wrong, 0).given, wrong)
            self.assertIs(outcome(lowest, wrong, "behind").given, wrong)
        self.assertEqual(outcome(lowest, 5, 0).given, 0)

    def test_1_3_reckoning(self):
        chance = chance_of(3)
        for _ in range(300):
            one = Fraction(chance.randint(-20, 20), chance.randint(1, 20))
            other = Fraction(chance.randint(-20, 20), chance.randint(1, 20))
            first, second = pair(one), pair(other)
            self.assertEqual(compare(first, second), (one > other) - (one < other))
            self.assertEqual(plus(first, second), pair(one + other))
            self.assertEqual(minus(first, second), pair(one - other))
            self.assertEqual(times(first, second), pair(one * other))

    def test_equal_ratios(self):
        for ratio in ((0, 1), (1, 2), (-7, 3), (MOST, 1), (-1, MOST)):
            self.assertEqual(compare(ratio, ratio), 0)
            self.assertEqual(minus(ratio, ratio), (0, 1))
            self.assertEqual(plus(ratio, (0, 1)), ratio)
            self.assertEqual(times(ratio, (1, 1)), ratio)
            self.assertEqual(times(ratio, (0, 1)), (0, 1))

    def test_long_ratios(self):
        self.assertEqual(plus((MOST, 1), (1, 1)), (LONG, 1))
        self.assertEqual(minus((-MOST, 1), (MOST, 1)), (-2 * MOST, 1))
        self.assertEqual(times((MOST, 1), (MOST, 1)), (MOST * MOST, 1))
        self.assertEqual(compare((MOST, MOST - 1), (MOST - 1, MOST - 2)), -1)
        self.assertEqual(times((MOST, 17), (17, MOST)), (1, 1))

    def test_reckoning_with_wrong_values(self):
        for call in (compare, plus, minus, times):
            for wrong in WRONG + ((2, 4), (1, -2), (LONG, 1), (0, 0)):
                for arguments in ((wrong, (1, 2)), ((1, 2), wrong), (wrong, None), (wrong, (2, 4))):
                    error = outcome(call, *arguments)
                    self.assertIs(type(error), InvalidNumber)
                    self.assertIs(error.given, wrong)
