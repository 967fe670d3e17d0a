"""[1.3]: couples, places and differences."""

import unittest
from fractions import Fraction
from itertools import product

from firmstops.errors import BadPlace
from firmstops.places import check_place, compare_places, cross_of, dot_of, is_couple, mean_place, place_minus
from firmstops.places import place_plus, place_scaled, quarter_left

from helpers import NO_RATIOS, NO_SEQUENCES, couples, ratio, row, value, values

GREAT = 10 ** 250 + 3
SOME = couples("0,0 1,0 0,1 -1,0 3/2,-7/5 -4,1/9 2,3") + (row(Fraction(1, GREAT), -GREAT),)
NO_COUPLES = NO_SEQUENCES + ((), [], ((0, 1),), ((0, 1), (0, 1), (0, 1)), (0, 1), [0, 1], ([0, 1], (0, 1)))


class Couples(unittest.TestCase):

    def test_couples(self):
        for one in SOME:
            self.assertIs(is_couple(one), True)
            self.assertIs(is_couple(list(one)), True)

    def test_no_couples(self):
        for thing in NO_COUPLES:
            self.assertIs(is_couple(thing), False, thing)
        for thing in NO_RATIOS:
            self.assertIs(is_couple((thing, (0, 1))), False, thing)
            self.assertIs(is_couple([(0, 1), thing]), False, thing)

    def test_check_place(self):
        for one in SOME:
            self.assertEqual(check_place(one), one)
            self.assertEqual(check_place(list(one)), one)
            self.assertIsInstance(check_place(list(one)), tuple)

    def test_check_place_refuses(self):
        for thing in NO_COUPLES:
            with self.assertRaises(BadPlace):
                check_place(thing)
        for thing in NO_RATIOS:
            with self.assertRaises(BadPlace):
                check_place((thing, (0, 1)))
            with self.assertRaises(BadPlace):
                check_place(((0, 1), thing))


class Reckoning(unittest.TestCase):

    def test_two_couples(self):
        for one, other in product(SOME, repeat=2):
            (a, b), (c, d) = values(one), values(other)
            for first, second in ((one, other), (list(one), list(other))):
                self.assertEqual(place_plus(first, second), row(a + c, b + d))
                self.assertEqual(place_minus(first, second), row(a - c, b - d))
                self.assertEqual(dot_of(first, second), ratio(a * c + b * d))
                self.assertEqual(cross_of(first, second), ratio(a * d - b * c))
                self.assertEqual(compare_places(first, second), ((a, b) > (c, d)) - ((a, b) < (c, d)))

    def test_scaled(self):
        for one in SOME:
            for by in (ratio("0"), ratio("-3/7"), ratio(GREAT)):
                a, b = values(one)
                self.assertEqual(place_scaled(one, by), row(a * value(by), b * value(by)))

    def test_quarter_left(self):
        self.assertEqual(quarter_left(row(1, 0)), row(0, 1))
        self.assertEqual(quarter_left(row("3/2 -7")), row("7 3/2"))
        self.assertEqual(quarter_left([(0, 1), (0, 1)]), row(0, 0))

    def test_compare_asks_x_first(self):
        self.assertEqual(compare_places(row(0, 5), row(1, 0)), -1)
        self.assertEqual(compare_places(row(1, 0), row(0, 5)), 1)
        self.assertEqual(compare_places(row(1, 2), row(1, 3)), -1)
        self.assertEqual(compare_places(row(1, 3), row(1, 2)), 1)
        self.assertEqual(compare_places(row(1, 3), row(1, 3)), 0)

    def test_mean(self):
        self.assertEqual(mean_place([row(3, 4)]), row(3, 4))
        self.assertEqual(mean_place(couples("0,0 1,0 0,1")), row("1/3 1/3"))
        self.assertEqual(mean_place(list(couples("0,0 4,0 4,2 0,2"))), row(2, 1))
        xs, ys = zip(*[values(one) for one in SOME])
        self.assertEqual(mean_place(SOME), row(sum(xs) / len(xs), sum(ys) / len(ys)))


if __name__ == "__main__":
    unittest.main()
