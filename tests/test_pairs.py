"""[10.1], [10.2]: pairs of works that touch, and the rows of all that pushes them."""

import unittest
from fractions import Fraction

from firmstops.errors import BadPlace, BadStop, NoTouch
from firmstops.pairs import Pair, check_both, pair_rows
from firmstops.pushes import rows_of
from firmstops.works import Work

from helpers import BOX, NO_COUPLES, NO_STOPS, SQUARE, TRIANGLE
from helpers import beside, couples, is_new_tuple, pair_stops, product, ratio, refused, row, rows, some_touching
from helpers import some_works, stops, value, values, work

GREAT = 10 ** 280 + 3
TOP = "1,2 3,2 3,5 1,5"


def touch_by_hand(one, other):
    """(sides, ends), in Fractions, of two works that touch along a line, or None."""
    for at, normal in enumerate(one.normals):
        for facing, against in enumerate(other.normals):
            places = [other.corners[facing], other.corners[(facing + 1) % len(other)]]
            if any(value(one.value_at(at, place)) != 0 for place in places) or product(normal, against) >= 0:
                continue
            side = values(one.side_of(at))
            aheads = [[a - b for a, b in zip(values(place), values(one.corners[at]))] for place in places]
            spots = sorted(sum(a * b for a, b in zip(ahead, side)) / sum(a * a for a in side) for ahead in aheads)
            first, last = max(spots[0], Fraction(0)), min(spots[1], Fraction(1))
            if first < last:
                return ((at, facing), sorted(values(one.place_at(at, ratio(spot))) for spot in (first, last)))
    return None


class Touch(unittest.TestCase):

    def test_by_hand(self):
        one, other = work(BOX), work(TOP)
        pair = Pair(one, other)
        self.assertIs(pair.one, one)
        self.assertIs(pair.other, other)
        self.assertEqual(pair.sides, (2, 0))
        self.assertEqual(pair.ends, couples("1,2 3,2"))

    def test_whole_side(self):
        pair = Pair(work(SQUARE), work("1,0 2,0 2,1 1,1"))
        self.assertEqual((pair.sides, pair.ends), ((1, 3), couples("1,0 1,1")))
        # A whole side of one that is a part of the other's.
        pair = Pair(work(SQUARE), work("1,-1 2,0 1,7"))
        self.assertEqual((pair.sides, pair.ends), ((1, 2), couples("1,0 1,1")))

    def test_part_of_a_side(self):
        pair = Pair(work(SQUARE), work("1,1/2 2,1/2 2,3 1,3"))
        self.assertEqual((pair.sides, pair.ends), ((1, 3), couples("1,1/2 1,1")))
        pair = Pair(work(SQUARE), work("1,-3 2,-3 2,1/3 1,1/3"))
        self.assertEqual((pair.sides, pair.ends), ((1, 3), couples("1,0 1,1/3")))
        # However short the segment is.
        tiny = Fraction(1, GREAT)
        pair = Pair(work(SQUARE), Work([row(1, 1 - tiny), row(2, 1 - tiny), row(2, 3), row(1, 3)]))
        self.assertEqual(pair.ends, (row(1, 1 - tiny), row("1 1")))

    def test_oblique(self):
        # The long side of the triangle lies on y = 3 - 3x/4.
        pair = Pair(work(TRIANGLE), work("4,0 4,3 0,3"))
        self.assertEqual((pair.sides, pair.ends), ((1, 2), couples("0,3 4,0")))
        pair = Pair(work("5,5 2,3/2 8/3,1"), work(TRIANGLE))
        self.assertEqual((pair.sides, pair.ends), ((1, 1), couples("2,3/2 8/3,1")))

    def test_at_a_corner_alone_or_apart(self):
        one = work(SQUARE)
        for text in ("1,1 2,1 2,2 1,2", "1,1 3,0 2,5", "1,-1 2,-1 2,0 1,0", "1,1/2 2,0 2,1", "2,0 3,0 3,1 2,1",
                     "1,3 2,3 2,4 1,4", "1,1 2,1 2,3 1,3", "0,5 1,5 1/2,6", "-1,-1 0,0 -3,5",
                     "1000,0 1001,0 1000,1", "1,2 3,5 1,6"):
            other = work(text)
            refused(self, NoTouch, lambda: Pair(one, other))
            refused(self, NoTouch, lambda: Pair(other, one))

    def test_overlapping(self):
        one = work(SQUARE)
        for text in (SQUARE, "1/2,0 2,0 2,1 1/2,1", "0,0 3,0 3,3 0,3", "0,0 1/2,0 1/2,1/2", "-1,-1 5,-1 5,5 -1,5",
                     "1/4,1/4 1/2,1/4 1/2,1/2", "0,0 1,0 1,9"):
            other = work(text)
            refused(self, NoTouch, lambda: Pair(one, other))
            refused(self, NoTouch, lambda: Pair(other, one))

    def test_all(self):
        shapes = set()
        for one, other, side, spots in some_touching(580):
            pair = Pair(one, other)
            self.assertEqual(tuple(vars(pair)), ("one", "other", "sides", "ends"))
            is_new_tuple(self, (pair.sides, pair.ends))
            self.assertEqual((pair.sides, [values(end) for end in pair.ends]), touch_by_hand(one, other))
            self.assertEqual(pair.sides[0], side)
            self.assertEqual(set(pair.ends), {one.place_at(side, ratio(spot)) for spot in spots})
            shapes.add((len(one), len(other), spots == (0, 1)))
        self.assertGreater(len(shapes), 10)

    def test_beside_each_other_without_a_segment(self):
        for told in some_works():
            for first, last in ((1, 2), (-1, 0), (Fraction(5, 4), 3), (-2, Fraction(-1, GREAT))):
                other = beside(told, 1, Fraction(first), Fraction(last), "four")
                refused(self, NoTouch, lambda: Pair(told, other))
                refused(self, NoTouch, lambda: Pair(other, told))

    def test_no_line_is_enough(self):
        # Not any two works of the list touch.
        told = some_works()
        for one in told:
            for other in told:
                self.assertIsNone(touch_by_hand(one, other))
                refused(self, NoTouch, lambda: Pair(one, other))


class Methods(unittest.TestCase):

    def test_swapped(self):
        for one, other, _, _ in some_touching(581):
            pair = Pair(one, other)
            swapped = pair.swapped()
            self.assertEqual((swapped.one, swapped.other), (other, one))
            self.assertEqual((swapped.sides, swapped.ends), (pair.sides[::-1], pair.ends))
            self.assertTrue(swapped == Pair(other, one))
            self.assertFalse(swapped == pair)
            self.assertTrue(swapped.swapped() == pair)

    def test_shifted(self):
        for one, other, _, _ in some_touching(582):
            pair = Pair(one, other)
            for by in (row("0 0"), list(row("1/2 -7")), row(GREAT, Fraction(1, GREAT))):
                shifted = pair.shifted(by)
                self.assertIsInstance(shifted, Pair)
                self.assertEqual((shifted.one, shifted.other), (one.shifted(by), other.shifted(by)))
                self.assertEqual(shifted.sides, pair.sides)
                ends = tuple(tuple(ratio(value(a) + value(b)) for a, b in zip(end, by)) for end in pair.ends)
                self.assertEqual(shifted.ends, ends)
        for thing in NO_COUPLES:
            refused(self, BadPlace, lambda: Pair(work(BOX), work(TOP)).shifted(thing))

    def test_equal(self):
        pair = Pair(work(BOX), work(TOP))
        self.assertTrue(pair == Pair(work(BOX), work(TOP)))
        self.assertFalse(pair != Pair(work(BOX), work(TOP)))
        self.assertFalse(pair == Pair(work(BOX), work("1,2 3,2 3,6 1,5")))
        self.assertFalse(pair == Pair(work("0,-1 4,0 4,2 0,2"), work(TOP)))
        self.assertFalse(pair == Pair(work(BOX), work(TOP).begun_at(1)))
        for thing in (None, 0, work(BOX), (work(BOX), work(TOP)), pair.sides, object()):
            self.assertFalse(pair == thing)


class Both(unittest.TestCase):

    def test_by_hand(self):
        pair = Pair(work(BOX), work(TOP))
        self.assertEqual(check_both(pair, (), ()), ((), ()))
        found = check_both(pair, [[0, (1, 2)]], ([3, (1, 3)], (1, (1, 2))))
        self.assertEqual(found, (stops("0:1/2"), stops("3:1/3 1:1/2")))
        is_new_tuple(self, found)
        six = stops("0:1/2") * 6
        self.assertEqual(check_both(pair, six, list(six)), (six, six))

    def test_refuses(self):
        for ask in (check_both, pair_rows):
            refuses_both(self, ask)


def refuses_both(test, ask):
    """Ask that a function of a pair checks the stops of one wholly, and then those of the other."""
    # Both works of this pair are triangles.
    pair = Pair(work(TRIANGLE), work("4,0 4,3 0,3"))
    good, many = stops("0:1/2"), stops("0:1/2") * 7
    for some, index, what in NO_STOPS:
        refused(test, BadStop, lambda: ask(pair, some, None), index, what)
        refused(test, BadStop, lambda: ask(pair, good, some), index, what)
        refused(test, BadStop, lambda: ask(pair, some, many), index, what)
    for more in (many, list(many), [None] * 7, many + good, [(9, None)] * 9):
        refused(test, BadStop, lambda: ask(pair, more, [None]), 0, "many")
        refused(test, BadStop, lambda: ask(pair, good * 6, more), 0, "many")
    refused(test, BadStop, lambda: ask(pair, good + ((0, (1, 2)), (5, (1, 2))), many), 2, "side")


class Rows(unittest.TestCase):

    def test_by_hand(self):
        pair = Pair(work(BOX), work(TOP))
        ends = rows("0 -4 -4 0 4 4", "0 -4 -12 0 4 12")
        self.assertEqual(pair_rows(pair, (), ()), ends)
        # Below at (2, 0) with the normal (0, 4); above at (2, 5) with the normal (0, -2).
        self.assertEqual(pair_rows(pair, [[0, (1, 2)]], stops("2:1/2")),
                         rows("0 4 8 0 0 0", "0 0 0 0 -2 -4") + ends)
        self.assertEqual(pair_rows(pair, (), stops("2:1/2 2:1/2")), rows("0 0 0 0 -2 -4", "0 0 0 0 -2 -4") + ends)
        # The swapped pair pushes along the other normal, which is half as long.
        self.assertEqual(pair_rows(pair.swapped(), stops("2:1/2"), ()),
                         rows("0 -2 -4 0 0 0", "0 2 2 0 -2 -2", "0 2 6 0 -2 -6"))

    def test_all(self):
        for at, (one, other, side, _) in enumerate(some_touching(583)):
            pair = Pair(one, other)
            for stops_one, stops_other in pair_stops(one, other, 584 + at):
                found = pair_rows(pair, stops_one, stops_other)
                is_new_tuple(self, found)
                self.assertEqual(len(found), len(stops_one) + len(stops_other) + 2)
                rest = row("0 0 0")
                expected = [line + rest for line in rows_of(one, stops_one)]
                expected += [rest + line for line in rows_of(other, stops_other)]
                for end in pair.ends:
                    (x, y), (p, q) = values(one.normals[side]), values(end)
                    expected.append(row(x, y, p * y - q * x, -x, -y, q * x - p * y))
                self.assertEqual(found, tuple(expected))

    def test_six_each(self):
        pair = Pair(work(BOX), work(TOP))
        six = stops("0:1/2 1:1/3 2:1/4 3:1/5 0:1/6 1:1/7")
        self.assertEqual(len(pair_rows(pair, six, six)), 14)


if __name__ == "__main__":
    unittest.main()
