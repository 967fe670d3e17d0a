"""[8.7], [8.8]: fours of sides that can be firm, four stops that are, and the judge."""

import unittest
from itertools import combinations_with_replacement

from firmstops.errors import BadSides
from firmstops.firm import is_firm
from firmstops.four import can_be_firm, firm_fours, four_fault, four_for
from firmstops.pushes import row_on
from firmstops.stops import check_stops
from firmstops.works import Work

from helpers import BOX, NO_SEQUENCES, SKEW, SQUARE, TRIANGLE
from helpers import are_firm, is_new_tuple, ratio, refused, row, some_works, stops, work

GREAT = 10 ** 280 + 3
BOX_FIRM = stops("0:1/2 1:1/2 2:1/4 3:3/4")


def all_works():
    return some_works() + (work("0,0 4,0 5,1 1,1"), work("0,0 9,0 9,1 5,2"))


def can_by_hand(told, sides):
    """Whether the rows at both ends of the sides are firm together, by free motions in Fractions."""
    return are_firm([row_on(told, side, ratio(spot)) for side in sorted(set(sides)) for spot in (0, 1)])


class CanBeFirm(unittest.TestCase):

    def test_by_hand(self):
        told = work(TRIANGLE)
        self.assertIs(can_be_firm(told, (0, 0, 1, 2)), True)
        self.assertIs(can_be_firm(told, [0, 1, 2, 2]), True)
        self.assertIs(can_be_firm(told, (0, 0, 1, 1)), False)
        self.assertIs(can_be_firm(told, (2, 2, 2, 2)), False)
        self.assertIs(can_be_firm(work(BOX), (0, 1, 2, 3)), True)
        # Stops on two parallel sides and on one across let the slide away from the latter.
        self.assertIs(can_be_firm(work(BOX), (0, 0, 2, 2)), False)
        self.assertIs(can_be_firm(work(BOX), (0, 1, 2, 2)), False)

    def test_fours(self):
        for told in all_works():
            for sides in list(combinations_with_replacement(range(len(told)), 4))[::1 if len(told) < 7 else 7]:
                self.assertIs(can_be_firm(told, sides), can_by_hand(told, sides))

    def test_no_four_stops_where_none_can_be(self):
        for told in (work(BOX), work(TRIANGLE), work(SKEW)):
            for sides in combinations_with_replacement(range(len(told)), 4):
                if not can_be_firm(told, sides):
                    for spots in (("1/9", "1/2", "3/5", "8/9"), ("8/9", "1/9", "8/9", "1/9")):
                        self.assertFalse(is_firm(told, tuple(zip(sides, row(*spots)))))

    def test_refuses(self):
        told = work(BOX)
        wrong = NO_SEQUENCES + ((), (0,), (0, 1, 2), (0, 1, 2, 3, 3), (0, 1, 3, 2), (1, 0, 2, 3), (0, 1, 2, 4),
                                (-1, 0, 1, 2), (False, 1, 2, 3), (0, True, 2, 3), (0, 1, 2, None), (0, 1, 2, "3"),
                                (0, 1.0, 2, 3), [3, 2, 1, 0], [0, 1, 2, 4], (0, 1, 2, (3,)))
        for thing in wrong:
            refused(self, BadSides, lambda: can_be_firm(told, thing), thing)


class FirmFours(unittest.TestCase):

    def test_by_hand(self):
        self.assertEqual(list(firm_fours(work(TRIANGLE))), [(0, 0, 1, 2), (0, 1, 1, 2), (0, 1, 2, 2)])
        self.assertEqual(list(firm_fours(work(BOX))), [(0, 1, 2, 3)])
        self.assertEqual(list(firm_fours(work(SQUARE))), [(0, 1, 2, 3)])

    def test_all(self):
        for told in all_works():
            if len(told) < 7:
                found = list(firm_fours(told))
                fours = combinations_with_replacement(range(len(told)), 4)
                self.assertEqual(found, [sides for sides in fours if can_by_hand(told, sides)])
                self.assertGreater(len(found), 0)
                is_new_tuple(self, tuple(found))
            else:
                found = list(firm_fours(told))
                self.assertEqual(found, sorted(set(found)))
                self.assertTrue(all(can_be_firm(told, sides) for sides in found))


class FourFor(unittest.TestCase):

    def test_fours(self):
        for told in all_works():
            found = four_for(told)
            is_new_tuple(self, found)
            self.assertEqual(found, check_stops(told, found))
            self.assertEqual(tuple(side for side, _ in found), next(firm_fours(told)))
            self.assertTrue(is_firm(told, found))
            self.assertIsNone(four_fault(told, found))

    def test_great_numbers(self):
        told = Work([row(0, 0), row(GREAT, 0), row(GREAT + 5, GREAT + 2), row(-1, GREAT)])
        self.assertIsNone(four_fault(told, four_for(told)))
        self.assertTrue(is_firm(told, four_for(told)))


class Judge(unittest.TestCase):

    def test_words(self):
        told = work(BOX)
        self.assertIsNone(four_fault(told, BOX_FIRM))
        self.assertIsNone(four_fault(told, [list(stop) for stop in BOX_FIRM]))
        wrong = NO_SEQUENCES + ((), BOX_FIRM[:3], BOX_FIRM + BOX_FIRM[:1], BOX_FIRM[:3] + (None,),
                                BOX_FIRM[:3] + ((4, (1, 2)),), ((False, (1, 2)),) + BOX_FIRM[1:],
                                BOX_FIRM[:3] + ((3, (1, 1)),), BOX_FIRM[:3] + ((3, (2, 4)),), (0, 1, 2, 3))
        for thing in wrong:
            self.assertEqual(four_fault(told, thing), "stops")
        for text in ("1:1/2 0:1/2 2:1/4 3:3/4", "0:1/2 0:1/2 2:1/4 3:3/4", "3:3/4 2:1/4 1:1/2 0:1/2"):
            self.assertEqual(four_fault(told, stops(text)), "sides")
        # Four firm stops on the sides of a later four are not let.
        later = stops("0:1/4 1:3/5 2:1/2 2:3/4")
        self.assertTrue(is_firm(work(TRIANGLE), later))
        self.assertEqual(four_fault(work(TRIANGLE), later), "sides")
        for text in ("0:1/2 1:1/2 2:1/2 3:1/2", "0:1/4 1:1/2 2:1/4 3:1/2", "0:1/2 1:1/2 2:3/4 3:3/4"):
            self.assertEqual(four_fault(told, stops(text)), "firm")


if __name__ == "__main__":
    unittest.main()
