"""[0.5], [1.1], [1.2] and ratio_text of [1.9]."""

import unittest
from fractions import Fraction
from itertools import product

from firmstops.errors import BadRatio
from firmstops.ratios import ONE, ZERO, compare, greatest_of, is_ratio, is_whole, least_of, make_ratio, minus
from firmstops.ratios import negative, over, plus, ratio_text, sign_of, sum_of, times

from helpers import NO_RATIOS, ratio, value

GREAT = 10 ** 299 + 1
SOME = [ratio(one) for one in ("0", "1", "-1", "1/2", "-1/2", "2/3", "7/4", "-22/7", "100", "1/100")]
SOME += [(GREAT, 1), (1, GREAT), (-GREAT, GREAT + 1), (GREAT + 2, 3 ** 600)]


class Whole(unittest.TestCase):

    def test_whole_numbers(self):
        for thing in (0, 1, -1, 10 ** 400, -10 ** 400):
            self.assertIs(is_whole(thing), True)

    def test_no_whole_numbers(self):
        for thing in (True, False, None, 1.0, "1", (1,), [1], (1, 1), {}, object()):
            self.assertIs(is_whole(thing), False, thing)
            self.assertIs(is_whole(thing, 0, 1), False, thing)
            self.assertIs(is_whole(thing, None, None), False, thing)

    def test_limits_are_let_in(self):
        self.assertIs(is_whole(3, 3, 3), True)
        self.assertIs(is_whole(2, 3, 5), False)
        self.assertIs(is_whole(3, 3, 5), True)
        self.assertIs(is_whole(5, 3, 5), True)
        self.assertIs(is_whole(6, 3, 5), False)
        self.assertIs(is_whole(4, 5, 3), False)

    def test_limits_that_are_none_or_left_out(self):
        self.assertIs(is_whole(-10 ** 50, None, 0), True)
        self.assertIs(is_whole(1, None, 0), False)
        self.assertIs(is_whole(10 ** 50, 0, None), True)
        self.assertIs(is_whole(10 ** 50, 0), True)
        self.assertIs(is_whole(-1, 0), False)
        self.assertIs(is_whole(-1, low=0), False)
        self.assertIs(is_whole(1, high=0), False)
        self.assertIs(is_whole(0, high=0), True)
        self.assertIs(is_whole(-1, 0, None), False)


class Ratios(unittest.TestCase):

    def test_ratios(self):
        for thing in ((0, 1), (1, 1), (-1, 1), (3, 2), (-3, 2), (GREAT, 3 ** 600), (1, GREAT)):
            self.assertIs(is_ratio(thing), True, thing)

    def test_no_ratios(self):
        for thing in NO_RATIOS:
            self.assertIs(is_ratio(thing), False, thing)

    def test_constants(self):
        self.assertEqual(ZERO, (0, 1))
        self.assertEqual(ONE, (1, 1))
        self.assertIsInstance(ZERO, tuple)
        self.assertIsInstance(ONE, tuple)

    def test_make_ratio(self):
        for top, bottom in product(range(-12, 13), repeat=2):
            if bottom != 0:
                self.assertEqual(make_ratio(top, bottom), ratio(Fraction(top, bottom)))
                self.assertTrue(is_ratio(make_ratio(top, bottom)))
        self.assertEqual(make_ratio(6 * GREAT, -4 * GREAT), (-3, 2))
        self.assertEqual(make_ratio(0, -5), (0, 1))

    def test_make_ratio_without_a_bottom(self):
        self.assertEqual(make_ratio(5), (5, 1))
        self.assertEqual(make_ratio(top=-5), (-5, 1))
        self.assertEqual(make_ratio(0), (0, 1))
        self.assertEqual(make_ratio(top=4, bottom=-6), (-2, 3))

    def test_make_ratio_refuses(self):
        for top in (True, False, None, 1.0, "1", (1, 1), [1]):
            for bottom in (1, 0, True, None):
                with self.assertRaises(BadRatio) as caught:
                    make_ratio(top, bottom)
                self.assertEqual(caught.exception.what, "top")
        for bottom in (0, True, False, None, 1.0, "1", (1, 1)):
            with self.assertRaises(BadRatio) as caught:
                make_ratio(1, bottom)
            self.assertEqual(caught.exception.what, "bottom")


class Reckoning(unittest.TestCase):

    def test_sums_differences_products(self):
        for one, other in product(SOME, repeat=2):
            a, b = value(one), value(other)
            self.assertEqual(plus(one, other), ratio(a + b))
            self.assertEqual(minus(one, other), ratio(a - b))
            self.assertEqual(times(one, other), ratio(a * b))

    def test_quotients(self):
        for one, other in product(SOME, repeat=2):
            if other != ZERO:
                self.assertEqual(over(one, other), ratio(value(one) / value(other)))

    def test_no_quotient(self):
        for one in SOME:
            with self.assertRaises(BadRatio) as caught:
                over(one, ZERO)
            self.assertEqual(caught.exception.what, "zero")

    def test_other_sign(self):
        for one in SOME:
            self.assertEqual(negative(one), ratio(-value(one)))

    def test_compare_and_sign(self):
        for one, other in product(SOME, repeat=2):
            a, b = value(one), value(other)
            self.assertEqual(compare(one, other), (a > b) - (a < b))
        for one in SOME:
            self.assertEqual(sign_of(one), compare(one, ZERO))
        self.assertEqual([sign_of(ratio(one)) for one in ("-1/9", "0", "1/9")], [-1, 0, 1])

    def test_sums(self):
        self.assertEqual(sum_of([]), ZERO)
        self.assertEqual(sum_of(()), ZERO)
        self.assertEqual(sum_of(tuple(SOME)), ratio(sum(value(one) for one in SOME)))
        self.assertEqual(sum_of([ratio("1/2"), ratio("1/3"), ratio("1/6")]), ONE)

    def test_least_and_greatest(self):
        for some in (SOME, tuple(SOME), SOME[::-1], SOME[:1], [ZERO, ZERO], SOME[3:], SOME[4:8]):
            self.assertEqual(least_of(some), ratio(min(value(one) for one in some)))
            self.assertEqual(greatest_of(some), ratio(max(value(one) for one in some)))

    def test_lists_stay(self):
        kept = list(SOME)
        sum_of(kept)
        least_of(kept)
        greatest_of(kept)
        self.assertEqual(kept, SOME)


class Texts(unittest.TestCase):

    def test_small_texts(self):
        for text in ("0", "3", "-3", "-7/2", "7/2", "1/100", "-1/3", "10", "-10/3"):
            self.assertEqual(ratio_text(ratio(text)), text)

    def test_long_texts(self):
        self.assertEqual(ratio_text((GREAT, 1)), str(GREAT))
        self.assertEqual(ratio_text((-GREAT, 3 ** 600)), str(-GREAT) + "/" + str(3 ** 600))
        for many in (63, 64, 65, 128, 129, 1000):
            for number in (10 ** many - 1, 10 ** many, 10 ** many + 1, 12 * 10 ** many + 305):
                self.assertEqual(ratio_text((number, 1)), str(number))
                self.assertEqual(ratio_text((-number, 1)), str(-number))

    def test_texts_that_python_does_not_write(self):
        self.assertEqual(ratio_text((10 ** 6000, 1)), "1" + "0" * 6000)
        self.assertEqual(ratio_text((-1, 10 ** 6000)), "-1/1" + "0" * 6000)


if __name__ == "__main__":
    unittest.main()
