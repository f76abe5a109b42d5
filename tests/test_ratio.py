"""Ratio: point 1 and the interface's splittalk/ratio.py."""

import unittest
from fractions import Fraction

from splittalk.errors import BadRatio
from splittalk.ratio import Ratio

BIG = 2 ** 64

NUMBERS = [
    (0, 1), (0, 5), (1, 1), (-1, 1), (1, 2), (-1, 2), (2, 4), (-6, 4), (5, 3), (-5, 3), (7, 1),
    (BIG + 1, 1), (-BIG - 1, 3), (1, BIG + 13), (BIG ** 2 + 1, BIG ** 2), (-(BIG ** 2), BIG + 2),
]


def fields(ratio):
    return ratio.num, ratio.den


def parts(fraction):
    return fraction.numerator, fraction.denominator


class Making(unittest.TestCase):

    def test_lowest_terms(self):
        self.assertEqual(fields(Ratio(6, 4)), (3, 2))
        self.assertEqual(fields(Ratio(-6, 4)), (-3, 2))
        self.assertEqual(fields(Ratio(6, 3)), (2, 1))
        self.assertEqual(fields(Ratio(3, 7)), (3, 7))
        self.assertEqual(fields(Ratio(6 * BIG, 4 * BIG)), (3, 2))

    def test_denominator_not_told(self):
        self.assertEqual(fields(Ratio(5)), (5, 1))
        self.assertEqual(fields(Ratio(-5)), (-5, 1))
        self.assertEqual(fields(Ratio(0)), (0, 1))
        self.assertEqual(fields(Ratio(BIG + 1)), (BIG + 1, 1))

    def test_named_arguments(self):
        self.assertEqual(fields(Ratio(num=2, den=6)), (1, 3))

    def test_zero_has_the_denominator_1(self):
        self.assertEqual(fields(Ratio(0, 7)), (0, 1))
        self.assertEqual(fields(Ratio(0, BIG)), (0, 1))

    def test_as_fraction(self):
        for num, den in NUMBERS:
            self.assertEqual(fields(Ratio(num, den)), parts(Fraction(num, den)))

    def test_denominator_not_positive(self):
        for num in (-2, 0, 1, 4, BIG):
            for den in (0, -1, -2, -BIG):
                with self.assertRaises(BadRatio):
                    Ratio(num, den)


class Operators(unittest.TestCase):

    def test_against_fractions(self):
        for one in NUMBERS:
            for other in NUMBERS:
                a, b = Ratio(*one), Ratio(*other)
                p, q = Fraction(*one), Fraction(*other)
                self.assertEqual(fields(a + b), parts(p + q))
                self.assertEqual(fields(a - b), parts(p - q))
                self.assertEqual(fields(a * b), parts(p * q))
                self.assertIs(a == b, p == q)
                self.assertIs(a != b, p != q)
                self.assertIs(a.less(b), p < q)
                # Neither of them is changed.
                self.assertEqual(fields(a), parts(p))
                self.assertEqual(fields(b), parts(q))

    def test_sums(self):
        self.assertEqual(fields(Ratio(1, 2) + Ratio(1, 3)), (5, 6))
        self.assertEqual(fields(Ratio(1, 2) + Ratio(1, 2)), (1, 1))
        self.assertEqual(fields(Ratio(1, 2) + Ratio(-1, 2)), (0, 1))

    def test_differences(self):
        self.assertEqual(fields(Ratio(1, 2) - Ratio(1, 3)), (1, 6))
        self.assertEqual(fields(Ratio(1, 3) - Ratio(1, 2)), (-1, 6))
        self.assertEqual(fields(Ratio(5, 7) - Ratio(5, 7)), (0, 1))

    def test_products(self):
        self.assertEqual(fields(Ratio(2, 3) * Ratio(3, 4)), (1, 2))
        self.assertEqual(fields(Ratio(-2, 3) * Ratio(3, 2)), (-1, 1))
        self.assertEqual(fields(Ratio(0) * Ratio(-3, 4)), (0, 1))

    def test_equality(self):
        self.assertTrue(Ratio(2, 4) == Ratio(1, 2))
        self.assertFalse(Ratio(1, 2) == Ratio(1, 3))
        self.assertFalse(Ratio(1, 2) == Ratio(-1, 2))
        self.assertFalse(Ratio(BIG) == Ratio(BIG + 1))

    def test_less(self):
        self.assertIs(Ratio(1, 3).less(Ratio(1, 2)), True)
        self.assertIs(Ratio(1, 2).less(Ratio(1, 3)), False)
        self.assertIs(Ratio(1, 2).less(Ratio(2, 4)), False)
        self.assertIs(Ratio(-1, 2).less(Ratio(-1, 3)), True)
        self.assertIs(Ratio(-1, 2).less(Ratio(0)), True)
        self.assertIs(Ratio(BIG, BIG + 1).less(Ratio(BIG + 1, BIG + 2)), True)

    def test_new_values(self):
        one, zero, unit = Ratio(1, 2), Ratio(0), Ratio(1)
        for made in (one + zero, one - zero, one * unit):
            self.assertEqual(fields(made), (1, 2))
            self.assertIsNot(made, one)


class Writing(unittest.TestCase):

    def test_str(self):
        for ratio, text in [
            (Ratio(3, 4), "3/4"), (Ratio(6, 8), "3/4"), (Ratio(-3, 4), "-3/4"),
            (Ratio(8, 4), "2"), (Ratio(-8, 4), "-2"), (Ratio(7), "7"), (Ratio(1), "1"),
            (Ratio(0), "0"), (Ratio(0, 9), "0"), (Ratio(1, 10), "1/10"),
            (Ratio(BIG + 1), "18446744073709551617"),
            (Ratio(-1, BIG + 1), "-1/18446744073709551617"),
        ]:
            self.assertEqual(str(ratio), text)

    def test_str_of_long_numbers(self):
        for many in (58, 59, 60, 61, 119, 120, 121, 300):
            for number in (10 ** many, 10 ** many - 1, 10 ** many + 1, 7 * 10 ** many + 30):
                self.assertEqual(str(Ratio(number)), str(number))
                self.assertEqual(str(Ratio(-number)), str(-number))
                self.assertEqual(str(Ratio(1, number)), f"1/{number}")

    def test_str_of_more_digits_than_python_writes(self):
        self.assertEqual(str(Ratio(10 ** 6000)), "1" + "0" * 6000)
        self.assertEqual(str(Ratio(-(10 ** 6000))), "-1" + "0" * 6000)
        self.assertEqual(str(Ratio(-1, 10 ** 6000)), "-1/1" + "0" * 6000)
