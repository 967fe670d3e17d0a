"""[8.4], [8.5], [8.6], [8.9]: feet, holding areas, three stops that hold a work, and the judge."""

import unittest
from fractions import Fraction
from itertools import combinations

from firmstops.areas import Area, extent_sign, middle_of
from firmstops.errors import BadPlace, BadSides
from firmstops.held import Held, held_or_loose, is_held
from firmstops.three import Three, feet_on, fewest_held, holding_area, holding_areas, three_fault, three_for
from firmstops.works import Work

from helpers import BOX, EIGHT, NO_COUPLES, NO_SEQUENCES, SKEW, SQUARE, TRIANGLE
from helpers import couples, fill_an_area, is_new_tuple, is_result, meetings, product, ratio, refused, row, some_works
from helpers import stops, value, values, work

GREAT = 10 ** 280 + 3
# Three sides that oppose: apart from all places (1, 2, 3), with one place over them (0, 1, 3), and with none in all.
APART, ONE_PLACE, NOWHERE = "0,2 5,1 6,1 3,3", "2,5 0,3 1,3 5,4", "0,4 1,3 6,3 4,4"


def all_works():
    return some_works() + tuple(work(text) for text in (
        APART, ONE_PLACE, NOWHERE, "0,0 6,0 5,1 1,1", "0,0 4,0 5,1 1,1", "0,0 8,0 9,1 1,3"))


def foot_spot(told, place, side):
    """The spot, in Fractions, of the foot of a place on the line of a side."""
    (a, b), (c, d) = values(told.corners[side]), values(told.corners[(side + 1) % len(told)])
    x, y = values(place)
    return ((x - a) * (c - a) + (y - b) * (d - b)) / ((c - a) ** 2 + (d - b) ** 2)


def oppose(told, sides):
    """Whether normals in this order turn left from each to the next, by less than a half turn."""
    some = [values(told.normals[side]) for side in sides]
    return all(a * d - b * c > 0 for (a, b), (c, d) in zip(some, some[1:] + some[:1]))


def corners_over(told, sides):
    """The corners, in Fractions, of all places whose feet lie on the sides, their corners let."""
    halves = []
    for side in sides:
        along = told.side_of(side)
        low = product(along, told.corners[side])
        high = product(along, told.corners[(side + 1) % len(told)])
        halves += [along + (ratio(low),), row(-value(along[0]), -value(along[1]), -high)]
    return meetings(halves)


class Feet(unittest.TestCase):

    def test_by_hand(self):
        self.assertEqual(feet_on(work(TRIANGLE), row("1 1")), stops("0:1/4 1:3/5 2:2/3"))
        self.assertEqual(feet_on(work(BOX), [ratio(1), ratio("1/2")]), stops("0:1/4 1:1/4 2:3/4 3:3/4"))
        # A corner has feet on the sides that do not end there alone.
        self.assertEqual(feet_on(work(BOX), row("0 0")), ())
        self.assertEqual(feet_on(work(TRIANGLE), row("0 0")), stops("1:16/25"))
        self.assertEqual(feet_on(work(BOX), row("1 0")), stops("0:1/4 2:3/4"))
        self.assertEqual(feet_on(work(BOX), row("1 -7")), stops("0:1/4 2:3/4"))
        self.assertEqual(feet_on(work(BOX), row("-1 -7")), ())
        self.assertEqual(feet_on(work(TRIANGLE), row("-1 -1")), stops("1:17/25"))

    def test_feet(self):
        for told in all_works():
            for place in (told.middle, told.corners[0], row(0, 0), row(GREAT, Fraction(-1, GREAT)), row("7/3 -5"),
                          told.place_at(1, ratio("1/3")), told.place_at(2, ratio("9/4"))):
                spots = [(side, foot_spot(told, place, side)) for side in range(len(told))]
                found = feet_on(told, place)
                is_new_tuple(self, found)
                self.assertEqual(found, tuple((side, ratio(spot)) for side, spot in spots if 0 < spot < 1))

    def test_refuses(self):
        for thing in NO_COUPLES:
            refused(self, BadPlace, lambda: feet_on(work(BOX), thing))


class HoldingArea(unittest.TestCase):

    def test_by_hand(self):
        told = work(TRIANGLE)
        self.assertEqual(holding_area(told, (0, 1, 2)), Area(couples("0,0 4,0 4,3 0,3")))
        self.assertEqual(holding_area(told, [0, 1, 2]), Area(couples("0,0 4,0 4,3 0,3")))
        for sides in combinations(range(4), 3):
            self.assertIsNone(holding_area(work(BOX), sides))
        self.assertIsNone(holding_area(work(SKEW), (0, 1, 2)))
        for text, sides in ((APART, (1, 2, 3)), (ONE_PLACE, (0, 1, 3)), (NOWHERE, (0, 1, 2))):
            self.assertTrue(oppose(work(text), sides))
            self.assertIsNone(holding_area(work(text), sides))
        self.assertEqual(len(corners_over(work(ONE_PLACE), (0, 1, 3))), 1)

    def test_areas(self):
        for told in all_works():
            for sides in combinations(range(len(told)), 3):
                found = holding_area(told, sides)
                corners = corners_over(told, sides)
                if not oppose(told, sides) or not fill_an_area(corners):
                    self.assertIsNone(found)
                else:
                    is_new_tuple(self, found.corners)
                    self.assertEqual({values(corner) for corner in found.corners} - corners, set())
                    for x, y in corners:
                        self.assertEqual(extent_sign(found, row(x, y)), 0)

    def test_just_the_places_that_hold(self):
        held = loose = 0
        for told in all_works():
            for sides in combinations(range(len(told)), 3):
                area = holding_area(told, sides)
                for place in self.places_near(told, area):
                    spots = [foot_spot(told, place, side) for side in sides]
                    if not all(0 < spot < 1 for spot in spots):
                        continue
                    some = tuple((side, ratio(spot)) for side, spot in zip(sides, spots))
                    within = area is not None and extent_sign(area, place) == 1
                    self.assertEqual(is_held(told, some), within)
                    held, loose = held + within, loose + (not within)
        self.assertGreater(min(held, loose), 30)

    def places_near(self, told, area):
        found = [told.middle, told.place_at(0, ratio("1/2"))]
        for corner in () if area is None else area.corners:
            for by in (Fraction(1, 2), Fraction(1, 10 ** 60), Fraction(-1, 10 ** 60)):
                middle = middle_of(area)
                found.append(row(*[a + by * (b - a) for a, b in zip(values(corner), values(middle))]))
        return found

    def test_other_three_stops_never_hold(self):
        for told in all_works():
            for place in (told.middle, row("1 1")):
                feet = feet_on(told, place)
                for some in combinations(feet, 2):
                    self.assertFalse(is_held(told, some))
                    self.assertFalse(is_held(told, some + some[:1]))
                    self.assertFalse(is_held(told, some + ((some[1][0], ratio("1/7")),)))

    def test_refuses(self):
        told = work(BOX)
        wrong = NO_SEQUENCES + ((), (0,), (0, 1), (0, 1, 2, 3), (0, 2, 1), (0, 0, 1), (0, 1, 1), (1, 2, 4), (-1, 0, 1),
                                (False, 1, 2), (0, True, 2), (0, 1, None), (0, 1, "2"), (0, 1.0, 2), [2, 1, 0],
                                [0, 1, 4], (0, 1, (2,)))
        for thing in wrong:
            refused(self, BadSides, lambda: holding_area(told, thing), thing)


class HoldingAreas(unittest.TestCase):

    def test_all(self):
        for told in all_works():
            found = list(holding_areas(told))
            areas = [(sides, holding_area(told, sides)) for sides in combinations(range(len(told)), 3)]
            self.assertEqual(found, [one for one in areas if one[1] is not None])
            for one in found:
                self.assertIs(one.__class__, tuple)
                is_new_tuple(self, one[0])
        self.assertEqual([sides for sides, _ in holding_areas(work("0,0 8,0 9,1 1,3"))], [(0, 2, 3), (1, 2, 3)])
        self.assertEqual(list(holding_areas(work(SQUARE))), [])


class ThreeFor(unittest.TestCase):

    def test_by_hand(self):
        point = row("2 3/2")
        self.assertEqual(three_for(work(TRIANGLE)), Three((0, 1, 2), point, stops("0:1/2 1:1/2 2:1/2")))
        for text in (SQUARE, BOX, NOWHERE, "0,0 4,0 5,1 1,1"):
            self.assertIsNone(three_for(work(text)))
            self.assertEqual(fewest_held(work(text)), 4)
        self.assertEqual(fewest_held(work(TRIANGLE)), 3)
        self.assertEqual(three_for(work(EIGHT)).sides, (0, 2, 5))
        self.assertEqual(three_for(work(APART)).sides, (0, 2, 3))

    def test_threes(self):
        for told in all_works():
            found, areas = three_for(told), list(holding_areas(told))
            self.assertEqual(fewest_held(told), 3 if areas else 4)
            if not areas:
                self.assertIsNone(found)
                continue
            sides, area = areas[0]
            spots = [(side, ratio(foot_spot(told, found.point, side))) for side in sides]
            self.assertEqual(found, Three(sides, middle_of(area), tuple(spots)))
            is_new_tuple(self, (found.sides, found.point, found.stops))
            self.assertIsNone(three_fault(told, found))
            verdict = held_or_loose(told, found.stops)
            self.assertIsInstance(verdict, Held)
            self.assertEqual(verdict.how, "bend")

    def test_great_numbers(self):
        told = Work([row(0, 0), row(GREAT, 0), row(1, GREAT + 2)])
        found = three_for(told)
        self.assertIsNone(three_fault(told, found))
        self.assertTrue(is_held(told, found.stops))


class Judge(unittest.TestCase):

    def test_sides(self):
        told, point, feet = work(TRIANGLE), row("1 1"), stops("0:1/4 1:3/5 2:2/3")
        self.assertIsNone(three_fault(told, Three((0, 1, 2), point, feet)))
        self.assertIsNone(three_fault(told, Three([0, 1, 2], list(point), [list(foot) for foot in feet])))
        for thing in NO_SEQUENCES + ((0, 1), (0, 2, 1), (0, 1, 3), (False, 1, 2), (0, True, 2), (1, 2, 3), (0, 1, 2, 3)):
            self.assertEqual(three_fault(told, Three(thing, None, None)), "sides")
        # The first three alone are right, and none are where there are none.
        many = work("0,0 8,0 9,1 1,3")
        first, second = list(holding_areas(many))
        point = middle_of(second[1])
        feet = tuple((side, ratio(foot_spot(many, point, side))) for side in second[0])
        self.assertTrue(is_held(many, feet))
        self.assertEqual(three_fault(many, Three(second[0], point, feet)), "sides")
        self.assertIsNone(three_fault(many, three_for(many)))
        self.assertEqual(first[0], (0, 2, 3))
        self.assertEqual(three_fault(work(BOX), Three((0, 1, 2), row("2 1"), stops("0:1/2 1:1/2 2:1/2"))), "sides")

    def test_point(self):
        told = work(TRIANGLE)
        for thing in NO_COUPLES + (row("0 0"), row("4 3"), row("2 0"), row("5 1"), row(1, -GREAT)):
            self.assertEqual(three_fault(told, Three((0, 1, 2), thing, None)), "point")
        # Any place strictly within the area is let, also such as lie outside of the work.
        for place in (row("7/2 5/2"), row(Fraction(1, GREAT), Fraction(1, GREAT))):
            feet = tuple((side, ratio(foot_spot(told, place, side))) for side in range(3))
            self.assertIsNone(three_fault(told, Three((0, 1, 2), place, feet)))

    def test_stops(self):
        told, point = work(TRIANGLE), row("1 1")
        wrong = NO_SEQUENCES + (
            (), stops("0:1/4 1:3/5"), stops("0:1/4 1:3/5 2:2/3 2:2/3"), stops("1:3/5 0:1/4 2:2/3"),
            stops("0:1/4 1:3/5 2:1/3"), stops("0:1/2 1:3/5 2:2/3"), (None, None, None),
            ((False, (1, 4)),) + stops("1:3/5 2:2/3"), ((0, (2, 8)),) + stops("1:3/5 2:2/3"),
            ((0, (1, 4), 0),) + stops("1:3/5 2:2/3"), ((0, [1, 4]),) + stops("1:3/5 2:2/3"),
        )
        for thing in wrong:
            self.assertEqual(three_fault(told, Three((0, 1, 2), point, thing)), "stops", thing)

    def test_class(self):
        attributes = {"sides": (0, 1, 2), "point": row("1 1"), "stops": stops("0:1/4 1:3/5 2:2/3")}
        is_result(self, Three, attributes, (None, [], (0, 1)))


if __name__ == "__main__":
    unittest.main()
