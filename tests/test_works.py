"""[1.4], [1.5], [1.6] and [0.6]: works, their sides, and works seen otherwise."""

import unittest
from fractions import Fraction
from itertools import product

from firmstops.errors import BadPlace, BadSize, BadWork, NoSide
from firmstops.places import place_plus
from firmstops.works import Work

from helpers import BOX, EIGHT, NO_RATIOS, NO_SEQUENCES, SKEW, SQUARE, TRIANGLE
from helpers import couples, is_new_tuple, ratio, row, some_works, value, values, work

NO_SIDES = (-1, True, False, None, 1.0, "0", (0,), (0, 1), [0])
STAR = "10,0 -8,6 3,-9 3,9 -8,-6"


def refused(test, corners, index, what):
    with test.assertRaises(BadWork) as caught:
        Work(corners)
    test.assertEqual((caught.exception.index, caught.exception.what), (index, what))


class Making(unittest.TestCase):

    def test_attributes(self):
        told = Work([[ratio(0), ratio(0)], row(4, 0), row(0, 3)])
        self.assertEqual(told.corners, couples("0,0 4,0 0,3"))
        self.assertEqual(told.normals, couples("0,4 -3,-4 3,0"))
        is_new_tuple(self, told.corners)
        is_new_tuple(self, told.normals)

    def test_three_to_eight_corners(self):
        corners = couples("0,0 1,0 2,1 2,2 1,3 0,3 -1,2 -1,1")
        for many in range(3, 9):
            told = Work(corners[:many])
            self.assertEqual(len(told), many)
            self.assertEqual(told.corners, corners[:many])

    def test_many(self):
        corners = couples("0,0 2,0 3,1 3,2 2,3 1,3 0,2 -1/2,1 -1/3,1/3")
        for thing in NO_SEQUENCES + ((), [], corners[:2], corners[:1], corners, list(corners)):
            refused(self, thing, 0, "many")
        refused(self, iter(corners[:3]), 0, "many")

    def test_many_comes_first(self):
        refused(self, [1, 2], 0, "many")
        refused(self, [None] * 9, 0, "many")

    def test_corner(self):
        good = couples("0,0 1,0 0,1")
        for thing in NO_SEQUENCES + (row(1), row(1, 2, 3), (1, 0), [1, 0]):
            for at in range(3):
                refused(self, good[:at] + (thing,) + good[at + 1:], at, "corner")
        for thing in NO_RATIOS:
            refused(self, [good[0], good[1], (thing, ratio(1))], 2, "corner")
            refused(self, [good[0], [ratio(1), thing], good[2]], 1, "corner")

    def test_first_corner_that_is_none(self):
        refused(self, [row(0, 0), None, None, row(0, 1)], 1, "corner")

    def test_corner_comes_before_turn(self):
        refused(self, [row(0, 0), row(0, 0), row(0, 0), None], 3, "corner")

    def test_turn(self):
        refused(self, couples("0,0 0,1 1,0"), 0, "turn")
        refused(self, couples("0,0 1,0 2,0"), 0, "turn")
        refused(self, couples("0,0 2,0 2,2 1,1 0,2"), 3, "turn")
        refused(self, couples("0,0 1,0 2,0 2,2 0,2"), 1, "turn")
        refused(self, couples("0,0 2,0 2,1 2,2 0,2"), 2, "turn")
        refused(self, couples("1,1 0,2 0,0 2,0 2,2"), 0, "turn")
        refused(self, couples("0,0 2,0 2,2 0,2 0,1"), 4, "turn")
        refused(self, couples("0,0 1,0 1,0 0,1"), 1, "turn")
        refused(self, couples("0,0 1,0 0,0"), 0, "turn")
        refused(self, couples("0,0 2,0 0,2 2,2"), 2, "turn")

    def test_turn_comes_before_round(self):
        twice = couples("0,0 4,0 0,3 0,0 4,0 0,3 0,3")
        refused(self, twice, 5, "turn")

    def test_round(self):
        refused(self, couples("0,0 4,0 0,3 0,0 4,0 0,3"), 0, "round")
        refused(self, couples("0,0 4,0 4,2 0,2") * 2, 0, "round")
        refused(self, couples(STAR), 0, "round")
        for at in range(5):
            refused(self, couples(STAR)[at:] + couples(STAR)[:at], 0, "round")
        refused(self, couples("0,0 6,0 6,5 1,5 1,-1 5,-1 5,6 0,6"), 0, "round")

    def test_round_three_times(self):
        corners = couples("10,0 -7,7 0,-10 7,7 -10,0 7,-7 0,10 -7,-7")
        refused(self, corners, 0, "round")

    def test_any_first_corner_makes_a_work(self):
        for told in some_works():
            for at in range(len(told)):
                self.assertEqual(len(Work(told.corners[at:] + told.corners[:at])), len(told))

    def test_a_nearly_straight_corner(self):
        tiny = ratio(Fraction(1, 10 ** 290))
        self.assertEqual(len(Work([row(0, 0), (ratio(1), (-tiny[0], tiny[1])), row(2, 0), row(1, 1)])), 4)
        refused(self, [row(0, 0), (ratio(1), tiny), row(2, 0), row(1, 1)], 1, "turn")

    def test_nothing_is_changed_or_kept(self):
        corners = [[ratio(0), ratio(0)], [ratio(4), ratio(0)], [ratio(0), ratio(3)]]
        told = Work(corners)
        self.assertEqual(corners, [[(0, 1), (0, 1)], [(4, 1), (0, 1)], [(0, 1), (3, 1)]])
        corners[0][0] = ratio(9)
        corners.append(1)
        self.assertEqual(told, work(TRIANGLE))
        self.assertEqual(len(told), 3)


class Equal(unittest.TestCase):

    def test_equal_works(self):
        for text in (TRIANGLE, SQUARE, SKEW, EIGHT):
            self.assertTrue(work(text) == work(text))
            self.assertFalse(work(text) != work(text))
            self.assertTrue(work(text) == Work([list(corner) for corner in work(text).corners]))

    def test_unlike_works(self):
        self.assertFalse(work(TRIANGLE) == work(SQUARE))
        self.assertTrue(work(TRIANGLE) != work(SQUARE))
        self.assertFalse(work(TRIANGLE) == work("4,0 0,3 0,0"))
        self.assertFalse(work(TRIANGLE) == work("0,0 4,0 0,2"))
        self.assertFalse(work(SQUARE) == work("0,0 1,0 1,1 0,2"))

    def test_other_things(self):
        told = work(TRIANGLE)
        for thing in (None, told.corners, list(told.corners), 1, "x", (told,)):
            self.assertFalse(told == thing)
            self.assertTrue(told != thing)


class Sides(unittest.TestCase):

    def test_corners_sides_normals(self):
        for told in some_works():
            many = len(told)
            for side in range(many):
                (a, b), (c, d) = values(told.corners[side]), values(told.corners[(side + 1) % many])
                self.assertEqual(told.corner_of(side), told.corners[side])
                self.assertEqual(told.side_of(side), row(c - a, d - b))
                self.assertEqual(told.normal_of(side), row(b - d, c - a))
                self.assertEqual(told.normals[side], told.normal_of(side))
            self.assertEqual(len(told.normals), many)

    def test_place_at(self):
        told = work(BOX)
        self.assertEqual(told.place_at(0, ratio("1/4")), row(1, 0))
        self.assertEqual(told.place_at(1, ratio("1/2")), row(4, 1))
        self.assertEqual(told.place_at(3, ratio("1/4")), row("0 3/2"))
        for told in some_works():
            for side in range(len(told)):
                following = told.corners[(side + 1) % len(told)]
                self.assertEqual(told.place_at(side, ratio(0)), told.corners[side])
                self.assertEqual(told.place_at(side, ratio(1)), following)
                for spot in ("1/3", "-2", "7/2"):
                    (a, b), (c, d), s = values(told.corners[side]), values(following), Fraction(spot)
                    self.assertEqual(told.place_at(side, ratio(spot)), row(a + s * (c - a), b + s * (d - b)))

    def test_value_at(self):
        for told in some_works():
            for side, place in product(range(len(told)), couples("0,0 1,1 -3/2,7/5") + told.corners[:2]):
                (a, b), (c, d), (x, y) = values(told.corners[side]), values(told.normals[side]), values(place)
                self.assertEqual(told.value_at(side, place), ratio((x - a) * c + (y - b) * d))
                self.assertEqual(told.value_at(side, list(place)), told.value_at(side, place))

    def test_value_is_above_zero_inside(self):
        told = work(BOX)
        self.assertEqual([told.value_at(side, row(1, "1/2")) for side in range(4)], [row(2)[0], row(6)[0], row(6)[0],
                                                                                  row(2)[0]])
        self.assertEqual(told.value_at(0, row(9, -1)), ratio(-4))

    def test_no_side(self):
        for told in some_works():
            for side in NO_SIDES + (len(told), len(told) + 1, -len(told)):
                for ask in (told.corner_of, told.side_of, told.normal_of,
                            lambda k: told.place_at(k, ratio("1/2")), lambda k: told.value_at(k, row(0, 0)),
                            told.begun_at):
                    with self.assertRaises(NoSide) as caught:
                        ask(side)
                    self.assertIs(caught.exception.side, side)

    def test_within_and_in(self):
        told = work(TRIANGLE)
        for place in ("1,1", "1/100,1/100", "2,1"):
            self.assertIs(told.is_within(couples(place)[0]), True)
            self.assertIs(couples(place)[0] in told, True)
        for place in ("0,0", "4,0", "0,3", "2,0", "2,3/2", "0,1"):
            self.assertIs(told.is_within(couples(place)[0]), False)
            self.assertIs(couples(place)[0] in told, True)
            self.assertIs(list(couples(place)[0]) in told, True)
        for place in ("5,0", "-1,0", "0,4", "2,2", "1,-1/1000", "-1/1000,1", "2,1501/1000", "8,-3"):
            self.assertIs(told.is_within(couples(place)[0]), False)
            self.assertIs(couples(place)[0] in told, False)
            self.assertIs(couples(place)[0] not in told, True)

    def test_middle(self):
        self.assertEqual(work(TRIANGLE).middle, row("4/3 1"))
        for told in some_works():
            xs, ys = zip(*[values(corner) for corner in told.corners])
            self.assertEqual(told.middle, row(sum(xs) / len(xs), sum(ys) / len(ys)))
            self.assertTrue(told.is_within(told.middle))


class SeenOtherwise(unittest.TestCase):

    def test_shifted(self):
        self.assertEqual(work(TRIANGLE).shifted(row("1/2 -3")), work("1/2,-3 9/2,-3 1/2,0"))
        for told in some_works():
            for by in (row(0, 0), [ratio("-7/3"), ratio(10 ** 200)]):
                self.assertEqual(told.shifted(by).corners, tuple(place_plus(one, by) for one in told.corners))

    def test_shifted_refuses(self):
        for thing in NO_SEQUENCES + ((), row(1), row(1, 2, 3), (1, 2), [(1, 1), (2, 2)]):
            with self.assertRaises(BadPlace):
                work(TRIANGLE).shifted(thing)

    def test_turned(self):
        self.assertEqual(work(TRIANGLE).turned(), work("0,0 0,4 -3,0"))
        for told in some_works():
            self.assertEqual(told.turned().corners, tuple((row(-value(y))[0], x) for x, y in told.corners))
            self.assertEqual(told.turned().turned().turned().turned(), told)

    def test_mirrored(self):
        self.assertEqual(work(TRIANGLE).mirrored(), work("0,0 0,3 -4,0"))
        self.assertEqual(work("1,0 4,0 4,2 0,2").mirrored(), work("-1,0 0,2 -4,2 -4,0"))
        for told in some_works():
            turned = told.corners[:1] + tuple(reversed(told.corners[1:]))
            self.assertEqual(told.mirrored().corners, tuple(((-x[0], x[1]), y) for x, y in turned))
            self.assertEqual(told.mirrored().mirrored(), told)

    def test_grown(self):
        self.assertEqual(work(TRIANGLE).grown(ratio("3/2")), work("0,0 6,0 0,9/2"))
        for told in some_works():
            for size in ("1", "1/7", "22/7"):
                by = Fraction(size)
                self.assertEqual(told.grown(ratio(size)).corners,
                                 tuple(row(value(x) * by, value(y) * by) for x, y in told.corners))

    def test_grown_refuses(self):
        for size in NO_RATIOS + ((0, 1), (-1, 1), (-1, 7)):
            with self.assertRaises(BadSize):
                work(SQUARE).grown(size)

    def test_begun_at(self):
        self.assertEqual(work(TRIANGLE).begun_at(1), work("4,0 0,3 0,0"))
        for told in some_works():
            for corner in range(len(told)):
                self.assertEqual(told.begun_at(corner).corners, told.corners[corner:] + told.corners[:corner])

    def test_the_work_stays(self):
        told = work(SKEW)
        for other in (told.shifted(row(1, 1)), told.turned(), told.mirrored(), told.grown(ratio(2)), told.begun_at(1)):
            self.assertNotEqual(other, told)
            self.assertEqual(told, work(SKEW))
        self.assertIsNot(told.begun_at(0), told)


if __name__ == "__main__":
    unittest.main()
