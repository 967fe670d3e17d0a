"""[1.7], [1.8] with the order of checks of [0.8]."""

import unittest
from fractions import Fraction

from firmstops.errors import BadPlace, BadStop, NoSide
from firmstops.stops import begun_stops, check_stop, check_stops, mirrored_stops, stop_at, stop_places

from helpers import BOX, NO_RATIOS, NO_SEQUENCES, SKEW, TRIANGLE
from helpers import couples, is_new_tuple, ratio, row, some_stops, some_works, stops, value, work

HALF = ratio("1/2")
NO_SIDES = (-1, 3, 4, True, False, None, 1.0, "0", (0, 1), [0])
NO_SPOTS = NO_RATIOS + ((0, 1), (1, 1), (-1, 2), (3, 2), (2, 1), (10 ** 300, 10 ** 300 - 1))


class Checks(unittest.TestCase):

    def refused(self, ask, index, what):
        with self.assertRaises(BadStop) as caught:
            ask()
        self.assertEqual((caught.exception.index, caught.exception.what), (index, what))

    def test_a_stop(self):
        told = work(TRIANGLE)
        for side in range(3):
            for spot in (HALF, (1, 10 ** 299), (10 ** 299 - 1, 10 ** 299)):
                self.assertEqual(check_stop(told, (side, spot)), (side, spot))
                self.assertEqual(check_stop(told, [side, spot]), (side, spot))
                self.assertIsInstance(check_stop(told, [side, spot]), tuple)

    def test_stops(self):
        told = work(TRIANGLE)
        some = [[0, HALF], (2, HALF), [0, HALF], (1, ratio("1/3"))]
        found = check_stops(told, some)
        self.assertEqual(found, ((0, HALF), (2, HALF), (0, HALF), (1, ratio("1/3"))))
        is_new_tuple(self, found)
        self.assertEqual(some, [[0, HALF], (2, HALF), [0, HALF], (1, ratio("1/3"))])
        self.assertEqual(check_stops(told, ()), ())
        self.assertEqual(check_stops(told, []), ())
        self.assertEqual(check_stops(told, [(0, HALF)] * 8), ((0, HALF),) * 8)

    def test_many(self):
        told = work(TRIANGLE)
        for thing in NO_SEQUENCES + ([(0, HALF)] * 9, ((0, HALF),) * 10, [None] * 9):
            self.refused(lambda: check_stops(told, thing), 0, "many")

    def test_words(self):
        told = work(TRIANGLE)
        for thing in NO_SEQUENCES + ((), (0,), (0, HALF, HALF), [0]):
            self.refused(lambda: check_stop(told, thing), 0, "stop")
            self.refused(lambda: check_stops(told, [(0, HALF), thing]), 1, "stop")
        for side in NO_SIDES:
            self.refused(lambda: check_stop(told, (side, HALF)), 0, "side")
            self.refused(lambda: check_stops(told, [(0, HALF), (1, HALF), [side, HALF]]), 2, "side")
        for spot in NO_SPOTS:
            self.refused(lambda: check_stop(told, (0, spot)), 0, "spot")
            self.refused(lambda: check_stops(told, ([2, spot], (1, HALF))), 0, "spot")

    def test_order_of_words(self):
        told = work(TRIANGLE)
        self.refused(lambda: check_stop(told, (9, None)), 0, "side")
        self.refused(lambda: check_stops(told, [(0, None), None]), 0, "spot")
        self.refused(lambda: check_stops(told, [(0, HALF), (0, None), (7, HALF)]), 1, "spot")
        self.refused(lambda: check_stops(told, [(0, HALF), (7, HALF), (0, None), None]), 1, "side")

    def test_the_number_of_sides_counts(self):
        self.assertEqual(check_stop(work(BOX), (3, HALF)), (3, HALF))
        self.refused(lambda: check_stop(work(TRIANGLE), (3, HALF)), 0, "side")

    def test_stops_are_checked_first(self):
        told = work(TRIANGLE)
        self.refused(lambda: stop_places(told, [None]), 0, "stop")
        self.refused(lambda: mirrored_stops(told, [(0, HALF), (5, HALF)]), 1, "side")
        self.refused(lambda: begun_stops(told, [(0, (1, 1))], 17), 0, "spot")
        self.refused(lambda: begun_stops(told, None, None), 0, "many")
        for corner in NO_SIDES:
            with self.assertRaises(NoSide) as caught:
                begun_stops(told, [(0, HALF)], corner)
            self.assertIs(caught.exception.side, corner)
            with self.assertRaises(NoSide):
                begun_stops(told, (), corner)


class Places(unittest.TestCase):

    def test_stop_places(self):
        self.assertEqual(stop_places(work(TRIANGLE), stops("0:1/4 1:3/5 2:2/3")), couples("1,0 8/5,9/5 0,1"))
        self.assertEqual(stop_places(work(TRIANGLE), []), ())
        for told in some_works():
            some = some_stops(told, 5, 8)
            found = stop_places(told, [list(one) for one in some])
            self.assertEqual(found, tuple(told.place_at(side, spot) for side, spot in some))
            is_new_tuple(self, found)

    def test_stop_at(self):
        for told in some_works():
            for stop in some_stops(told, 6, 8):
                place = told.place_at(*stop)
                self.assertEqual(stop_at(told, place), stop)
                self.assertEqual(stop_at(told, list(place)), stop)
            for corner in told.corners:
                self.assertIsNone(stop_at(told, corner))
            self.assertIsNone(stop_at(told, told.middle))
            for side in range(len(told)):
                for spot in ("-1/2", "3/2", "-1", "2"):
                    self.assertIsNone(stop_at(told, told.place_at(side, ratio(spot))))

    def test_stop_at_near_a_side(self):
        self.assertEqual(stop_at(work(BOX), row(1, 0)), (0, ratio("1/4")))
        self.assertIsNone(stop_at(work(BOX), row(1, Fraction(1, 10 ** 200))))
        self.assertIsNone(stop_at(work(BOX), row(1, Fraction(-1, 10 ** 200))))

    def test_stop_at_refuses(self):
        for thing in NO_SEQUENCES + ((), row(1), row(1, 2, 3), (1, 2), [(1, 1), (2, 2)]):
            with self.assertRaises(BadPlace):
                stop_at(work(BOX), thing)


class SeenOtherwise(unittest.TestCase):

    def test_mirrored(self):
        self.assertEqual(mirrored_stops(work(TRIANGLE), stops("0:1/4 2:2/3 1:1/2")), stops("2:3/4 0:1/3 1:1/2"))
        for told in some_works():
            some = some_stops(told, 7, 8)
            other = mirrored_stops(told, [list(one) for one in some])
            is_new_tuple(self, other)
            self.assertEqual(other, tuple((len(told) - 1 - k, ratio(1 - value(s))) for k, s in some))
            places = tuple(((-x[0], x[1]), y) for x, y in stop_places(told, some))
            self.assertEqual(stop_places(told.mirrored(), other), places)

    def test_begun(self):
        self.assertEqual(begun_stops(work(TRIANGLE), stops("0:1/4 2:2/3"), 1), stops("2:1/4 1:2/3"))
        for told in some_works():
            some = some_stops(told, 8, 8)
            for corner in range(len(told)):
                other = begun_stops(told, list(some), corner)
                self.assertEqual(other, tuple(((k - corner) % len(told), s) for k, s in some))
                self.assertEqual(stop_places(told.begun_at(corner), other), stop_places(told, some))

    def test_shifted_turned_grown(self):
        told = work(SKEW)
        some = some_stops(told, 9, 8)
        places = stop_places(told, some)
        self.assertEqual(stop_places(told.turned(), some), tuple(((-y[0], y[1]), x) for x, y in places))
        self.assertEqual(stop_places(told.grown(ratio("2/3")), some),
                         tuple(row(value(x) * Fraction(2, 3), value(y) * Fraction(2, 3)) for x, y in places))
        self.assertEqual(stop_places(told.shifted(row(1, -2)), some),
                         tuple(row(value(x) + 1, value(y) - 2) for x, y in places))

    def test_no_stops(self):
        self.assertEqual(mirrored_stops(work(SKEW), ()), ())
        self.assertEqual(begun_stops(work(SKEW), [], 2), ())


if __name__ == "__main__":
    unittest.main()
