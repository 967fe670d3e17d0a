"""[2.1]: rows of stops, and pulls."""

import unittest

from firmstops.errors import BadPull, BadStop, NoSide
from firmstops.pushes import check_pull, row_at, row_of, row_on, rows_of

from helpers import BOX, NO_RATIOS, NO_SEQUENCES, SKEW, TRIANGLE
from helpers import is_new_tuple, ratio, row, rows, some_stops, some_works, stops, values, work

HALF = ratio("1/2")


class Rows(unittest.TestCase):

    def test_by_hand(self):
        self.assertEqual(rows_of(work(BOX), stops("0:1/4 0:3/4")), rows("0 4 4", "0 4 12"))
        self.assertEqual(row_of(work(TRIANGLE), stops("1:3/5")[0]), row("-3 -4 -1"))
        self.assertEqual(row_of(work(BOX), stops("1:1/2")[0]), row("-2 0 2"))

    def test_rows(self):
        for told in some_works():
            some = some_stops(told, 71, 8)
            found = rows_of(told, [list(one) for one in some])
            is_new_tuple(self, found)
            self.assertEqual(found, tuple(row_of(told, list(one)) for one in some))
            for (side, spot), line in zip(some, found):
                (x, y), (a, b) = values(told.place_at(side, spot)), values(told.normal_of(side))
                self.assertEqual(line, row(a, b, x * b - y * a))
                self.assertEqual(row_on(told, side, spot), line)

    def test_no_stops(self):
        self.assertEqual(rows_of(work(BOX), ()), ())
        self.assertEqual(rows_of(work(BOX), []), ())

    def test_the_place_may_go_along_the_normal(self):
        told = work(SKEW)
        for side, spot in some_stops(told, 72, 8):
            (x, y), (a, b) = values(told.place_at(side, spot)), values(told.normal_of(side))
            moved = row(x + 7 * a, y + 7 * b)
            self.assertEqual(row_at(moved, told.normal_of(side)), row_of(told, (side, spot)))

    def test_any_spot(self):
        told = work(BOX)
        self.assertEqual(row_on(told, 0, ratio(0)), row("0 4 0"))
        self.assertEqual(row_on(told, 0, ratio(1)), row("0 4 16"))
        self.assertEqual(row_on(told, 0, ratio(-1)), row("0 4 -16"))
        self.assertEqual(row_on(told, 2, ratio("5/2")), row("0 -4 24"))

    def test_row_at(self):
        self.assertEqual(row_at(row("2 3"), row("5 7")), row("5 7 -1"))
        self.assertEqual(row_at(list(row("2 3")), list(row("0 0"))), row("0 0 0"))
        self.assertEqual(row_at(row("1/2 0"), row("0 1/3")), row("0 1/3 1/6"))
        is_new_tuple(self, row_at(list(row("2 3")), list(row("5 7"))))

    def test_bad_stops(self):
        told = work(TRIANGLE)
        for stop, what in ((None, "stop"), ((0,), "stop"), ((3, HALF), "side"), ((True, HALF), "side"),
                           ((0, ratio(1)), "spot"), ([0, (2, 4)], "spot"), ((3, None), "side")):
            with self.assertRaises(BadStop) as caught:
                row_of(told, stop)
            self.assertEqual((caught.exception.index, caught.exception.what), (0, what))
            with self.assertRaises(BadStop) as caught:
                rows_of(told, [(0, HALF), stop])
            self.assertEqual((caught.exception.index, caught.exception.what), (1, what))
        for thing in NO_SEQUENCES + ([(0, HALF)] * 9,):
            with self.assertRaises(BadStop) as caught:
                rows_of(told, thing)
            self.assertEqual((caught.exception.index, caught.exception.what), (0, "many"))

    def test_no_side(self):
        for side in (-1, 3, True, None, "0", (0,)):
            with self.assertRaises(NoSide) as caught:
                row_on(work(TRIANGLE), side, HALF)
            self.assertIs(caught.exception.side, side)


class Pulls(unittest.TestCase):

    def test_pulls(self):
        for one in rows("0 0 0", "1 -2/3 5"):
            for told in (one, list(one)):
                self.assertEqual(check_pull(told), one)
                self.assertIsInstance(check_pull(told), tuple)

    def test_no_pulls(self):
        for thing in NO_SEQUENCES + ((), row("1 2"), row("1 2 3 4"), (1, 2, 3)):
            with self.assertRaises(BadPull):
                check_pull(thing)
        for thing in NO_RATIOS:
            for wrong in ((thing, ratio(1), ratio(1)), [ratio(1), ratio(1), thing]):
                with self.assertRaises(BadPull):
                    check_pull(wrong)


if __name__ == "__main__":
    unittest.main()
