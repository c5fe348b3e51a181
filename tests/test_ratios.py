"""Ratios: point [4] and the interface, prunepath/ratios.py."""

import math
import unittest
from fractions import Fraction

from prunepath.errors import NoRatio
from prunepath.ratios import amid, minus, over, plus, ratio, times, under
from samples import as_ratio, figures, fraction

SMALL = [(top, bottom) for bottom in range(1, 9) for top in range(-9, 10) if math.gcd(top, bottom) == 1]


def large_ratios(many):
    told = []
    for seed in (3, 7, 11, 13):
        one = Fraction(figures(many, seed), figures(many, seed + 4))
        told.append((one.numerator, one.denominator))
        told.append((-one.numerator, one.denominator))
    told.append((figures(many, 17), 1))
    told.append((1, figures(many, 19)))
    told.append((-1, figures(many, 19)))
    return told


class Ratios(unittest.TestCase):
    # No assertEqual on the numbers: Python does not write out those of over 4300 figures.
    def check(self, told, want):
        self.assertIs(type(told), tuple)
        self.assertEqual(len(told), 2)
        self.assertIs(type(told[0]), int)
        self.assertIs(type(told[1]), int)
        self.assertTrue(told[1] >= 1, "bottom below 1")
        self.assertTrue(math.gcd(told[0], told[1]) == 1, "not in lowest terms")
        self.assertTrue(told == (want.numerator, want.denominator), "another ratio")

    def check_all(self, one, other):
        left = fraction(one)
        right = fraction(other)
        self.check(plus(one, other), left + right)
        self.check(minus(one, other), left - right)
        self.check(times(one, other), left * right)
        self.check(amid(one, other), (left + right) / 2)
        self.assertIs(under(one, other), left < right)
        if other[0] != 0:
            self.check(over(one, other), left / right)
        else:
            with self.assertRaises(NoRatio):
                over(one, other)

    def check_very_close(self, less, more):
        self.assertIs(under(less, more), True)
        self.assertIs(under(more, less), False)
        self.assertIs(under(less, less), False)
        self.assertIs(under(more, more), False)


class Made(Ratios):
    def test_by_hand(self):
        self.assertEqual(ratio(6, 4), (3, 2))
        self.assertEqual(ratio(-6, 4), (-3, 2))
        self.assertEqual(ratio(6, -4), (-3, 2))
        self.assertEqual(ratio(-6, -4), (3, 2))
        self.assertEqual(ratio(5, 1), (5, 1))
        self.assertEqual(ratio(5, -1), (-5, 1))
        self.assertEqual(ratio(4, 6), (2, 3))
        self.assertEqual(ratio(7, 7), (1, 1))

    def test_nought(self):
        for bottom in (1, -1, 2, -2, 360, -360, 10 ** 2999, -(10 ** 2999)):
            self.assertEqual(ratio(0, bottom), (0, 1))

    def test_all_small_numbers(self):
        for top in range(-40, 41):
            for bottom in range(-40, 41):
                if bottom != 0:
                    self.check(ratio(top, bottom), Fraction(top, bottom))

    def test_much_in_common(self):
        for shared in (2 ** 10, 3 ** 7, 2 * 3 * 5 * 7 * 11, 720720):
            for top in range(-12, 13):
                for bottom in (-12, -7, -2, -1, 1, 2, 9, 12):
                    self.check(ratio(top * shared, bottom * shared), Fraction(top, bottom))

    def test_large_numbers(self):
        for many in (30, 31, 200, 700, 3000):
            top = figures(many, 3)
            bottom = figures(many, 7)
            for one in (top, -top):
                for other in (bottom, -bottom):
                    self.check(ratio(one, other), Fraction(one, other))

    def test_large_numbers_with_much_in_common(self):
        for many in (100, 400, 1500):
            shared = figures(many, 5)
            for top, bottom in ((1, 1), (-4, 6), (figures(many, 3), -figures(many, 7))):
                self.check(ratio(top * shared, bottom * shared), Fraction(top, bottom))

    def test_powers_in_common(self):
        self.check(ratio(2 ** 9900, 2 ** 9000), Fraction(2 ** 900))
        self.check(ratio(-(6 ** 3000), 10 ** 2900), Fraction(-(6 ** 3000), 10 ** 2900))

    def test_bottom_nought_is_refused(self):
        for top in (0, 1, -1, 12, 10 ** 2999, -(10 ** 2999), 10 ** 6000):
            with self.assertRaises(NoRatio):
                ratio(top, 0)

    def test_other_than_whole_numbers_are_refused(self):
        for wrong in (True, False, None, "1", "", 1.0):
            with self.subTest(wrong=wrong):
                with self.assertRaises(NoRatio):
                    ratio(wrong, 1)
                with self.assertRaises(NoRatio):
                    ratio(1, wrong)


class Reckoned(Ratios):
    def test_by_hand(self):
        self.assertEqual(plus((1, 2), (1, 3)), (5, 6))
        self.assertEqual(plus((1, 6), (1, 3)), (1, 2))
        self.assertEqual(plus((1, 2), (-1, 2)), (0, 1))
        self.assertEqual(minus((1, 2), (1, 3)), (1, 6))
        self.assertEqual(minus((1, 3), (1, 2)), (-1, 6))
        self.assertEqual(minus((5, 7), (5, 7)), (0, 1))
        self.assertEqual(times((2, 3), (9, 4)), (3, 2))
        self.assertEqual(times((0, 1), (-9, 4)), (0, 1))
        self.assertEqual(over((1, 2), (-3, 4)), (-2, 3))
        self.assertEqual(over((-1, 2), (-3, 4)), (2, 3))
        self.assertEqual(over((0, 1), (-3, 4)), (0, 1))
        self.assertEqual(amid((0, 1), (1, 1)), (1, 2))
        self.assertEqual(amid((1, 3), (-1, 3)), (0, 1))
        self.assertEqual(amid((-3, 1), (-1, 1)), (-2, 1))
        self.assertEqual(amid((2, 5), (2, 5)), (2, 5))

    def test_all_small_ratios(self):
        for one in SMALL:
            for other in SMALL:
                self.check_all(one, other)

    def test_large_ratios(self):
        for many in (30, 100, 400):
            told = large_ratios(many) + [(0, 1), (1, 1), (-1, 2)]
            for one in told:
                for other in told:
                    self.check_all(one, other)

    def test_ratios_of_three_thousand_figures(self):
        told = large_ratios(3000)
        for one, other in zip(told, told[1:] + [(0, 1)]):
            self.check_all(one, other)
            self.check_all(one, one)
            self.check_all(other, one)

    def test_three_thousand_figures_that_cancel(self):
        odd = 2 * (figures(3000, 3) // 2) + 1
        self.assertTrue(plus((odd, 2), (-odd, 2)) == (0, 1))
        self.assertTrue(minus((odd, 2), (odd, 2)) == (0, 1))
        self.assertTrue(times((odd, 2), (2, odd)) == (1, 1))
        self.assertTrue(over((odd, 2), (odd, 2)) == (1, 1))
        self.assertTrue(over((odd, 2), (-odd, 2)) == (-1, 1))
        self.assertTrue(amid((odd, 2), (odd, 2)) == (odd, 2))

    def test_large_bottoms_that_share_much(self):
        shared = figures(1500, 5)
        for first, second in ((6, 10), (7, 7), (figures(1400, 3), 2 * figures(1400, 7)), (1, shared), (shared, shared)):
            for top in (1, -1, figures(3000, 11), -figures(3000, 13)):
                one = as_ratio(Fraction(top, shared * first))
                other = as_ratio(Fraction(figures(2000, 17), shared * second))
                self.check_all(one, other)
                self.check_all(other, one)

    def test_many_large_ratios_added_up(self):
        seeds = range(3, 64)
        told = [as_ratio(Fraction(figures(3000, seed) * (-1) ** seed, figures(3000, seed + 1))) for seed in seeds]
        summed = (0, 1)
        for one in told:
            summed = plus(summed, one)
        self.check(summed, sum(map(fraction, told), Fraction(0)))
        for one in told:
            summed = minus(summed, one)
        self.assertTrue(summed == (0, 1), "not back at nought")

    def test_over_nought_is_refused(self):
        for one in ((0, 1), (1, 1), (-1, 1), (-7, 3), (10 ** 2999, 7), (1, 10 ** 2999)):
            with self.assertRaises(NoRatio):
                over(one, (0, 1))


class Under(Ratios):
    def test_by_hand(self):
        self.assertIs(under((1, 3), (1, 2)), True)
        self.assertIs(under((1, 2), (1, 3)), False)
        self.assertIs(under((-1, 2), (-1, 3)), True)
        self.assertIs(under((-1, 3), (-1, 2)), False)
        self.assertIs(under((-1, 2), (0, 1)), True)
        self.assertIs(under((0, 1), (-1, 2)), False)
        self.assertIs(under((0, 1), (0, 1)), False)
        self.assertIs(under((-5, 3), (2, 7)), True)
        self.assertIs(under((2, 7), (-5, 3)), False)

    def test_equal_ratios(self):
        for one in SMALL + large_ratios(300) + large_ratios(3000):
            self.assertIs(under(one, (one[0], one[1])), False)

    def test_ratios_that_differ_very_little(self):
        for many in (17, 30, 300, 2999):
            large = 10 ** many
            self.check_very_close((large - 1, large), (1, 1))
            self.check_very_close((1, 1), (large + 1, large))
            self.check_very_close((large - 1, large), (large, large + 1))
            self.check_very_close((-large, large + 1), (-(large - 1), large))
            self.check_very_close((-1, large), (0, 1))
            self.check_very_close((0, 1), (1, large))
            self.check_very_close((large, 1), (large + 1, 1))
            self.check_very_close((2 * large - 1, 2), (large, 1))


if __name__ == "__main__":
    unittest.main()
