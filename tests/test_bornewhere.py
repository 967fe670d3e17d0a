"""[7.7]: the places and the directions for which a pull is borne, and the place of the weight."""

import unittest
from fractions import Fraction

from firmstops.areas import Area, Empty, Point, Segment, extent_sign
from firmstops.bornewhere import borne_directions, borne_places, missed_corner, weight_place
from firmstops.errors import BadDirection, BadPlace
from firmstops.freely import in_shape
from firmstops.pulls import is_borne, pull_at
from firmstops.pushes import rows_of
from firmstops.works import Work

from helpers import BOX, NO_COUPLES, NO_DIRECTIONS, SKEW, SQUARE, TRIANGLE
from helpers import couples, crossed, hold_cases, is_new_tuple, ratio, refused, refuses_stops, row, some_stops
from helpers import some_works, stops, value, values, work

GREAT = 10 ** 280 + 3
TINY = Fraction(1, 10 ** 90)
TWO = stops("0:1/4 0:3/4")
FIRM = stops("0:1/2 1:1/2 2:1/4 3:3/4")
DOWN = row("0 -1")


def cases():
    return list(hold_cases(4))[::2] + [(told, some_stops(told, 410, 6)) for told in some_works()[:4]]


def meets_of(lines):
    """The places, in Fractions, at which normal lines of rows meet."""
    found = []
    for at, one in enumerate(lines):
        for other in lines[at + 1:]:
            u, v, w = crossed(one, other)
            if w != 0:
                found.append((-v / w, u / w))
    return found


def some_directions(told, some):
    """Directions against the stops, and some by which a line through a meet just touches the work."""
    lines = rows_of(told, some)
    found = [row("0 -1"), row("1 0"), row("-2 3")]
    found += [row(-value(line[0]), -value(line[1])) for line in lines]
    for one, other in list(zip(lines, lines[1:]))[:2]:
        x, y = value(one[0]) + 2 * value(other[0]), value(one[1]) + 2 * value(other[1])
        if (x, y) != (0, 0):
            found.append(row(-x, -y))
    for x, y in meets_of(lines)[:1]:
        for corner in told.corners[:4]:
            a, b = values(corner)
            if (a, b) != (x, y):
                found += [row(a - x, b - y), row(x - a, y - b)]
    return found


def places_around(told, extent):
    """Places of the work, and such as are on, just within and just beyond an extent."""
    middle = told.middle
    found = [middle] + list(told.corners) + [told.place_at(side, ratio("1/3")) for side in range(len(told))]
    some = {Empty: (), Point: ("place",), Segment: ("one", "other")}.get(extent.__class__)
    some = extent.corners if some is None else [getattr(extent, name) for name in some]
    for place in some:
        found.append(place)
        for other, by in ((middle, TINY), (middle, -TINY), (some[-1], -TINY)):
            found.append(row(*[a + by * (b - a) for a, b in zip(values(place), values(other))]))
    return found


class BornePlaces(unittest.TestCase):

    def test_by_hand(self):
        told = work(BOX)
        self.assertEqual(borne_places(told, TWO, DOWN), Area(couples("1,0 3,0 3,2 1,2")))
        self.assertEqual(borne_places(told, [list(one) for one in TWO], list(DOWN)), Area(couples("1,0 3,0 3,2 1,2")))
        self.assertEqual(borne_places(told, stops("0:1/4"), DOWN), Segment(*couples("1,0 1,2")))
        self.assertEqual(borne_places(told, TWO, row("0 1")), Empty())
        self.assertEqual(borne_places(told, TWO, row("1 -5")), Empty())
        self.assertEqual(borne_places(told, FIRM, row("3 -7")), Area(told.corners))
        self.assertEqual(borne_places(told, (), DOWN), Empty())
        # Such a pull goes through (2, -3/2), where the normal lines meet, and so past all but corner 0.
        self.assertEqual(borne_places(work("0,0 4,0 2,1"), stops("0:1/2 1:1/2"), row("4 -3")), Point(row("0 0")))

    def test_places(self):
        kinds = {}
        for told, some in cases():
            for direction in some_directions(told, some):
                found = borne_places(told, some, direction)
                kinds[found.__class__] = kinds.get(found.__class__, 0) + 1
                is_new_tuple(self, tuple(vars(found).values()))
                for place in places_around(told, found):
                    inside = place in told and is_borne(told, some, pull_at(place, direction))
                    self.assertEqual(extent_sign(found, place) >= 0, inside, (some, direction, place))
        self.assertEqual(set(kinds), {Empty, Point, Segment, Area})
        self.assertGreater(min(kinds.values()), 5, kinds)

    def test_great_numbers(self):
        told = Work([row(0, 0), row(GREAT, 0), row(GREAT, 1), row(0, 1)])
        near = ((0, ratio(Fraction(1, GREAT))), (0, ratio(Fraction(GREAT - 1, GREAT))))
        expected = (row(1, 0), row(GREAT - 1, 0), row(GREAT - 1, 1), row(1, 1))
        self.assertEqual(borne_places(told, near, row(0, -GREAT)), Area(expected))

    def test_refuses(self):
        refuses_stops(self, lambda some: borne_places(work(TRIANGLE), some, None))
        for thing in NO_DIRECTIONS:
            for some in (TWO, ()):
                refused(self, BadDirection, lambda: borne_places(work(BOX), some, thing))


class MissedCorner(unittest.TestCase):

    def test_by_hand(self):
        told = work(BOX)
        self.assertEqual(missed_corner(told, TWO, DOWN), 0)
        self.assertIsNone(missed_corner(told, FIRM, DOWN))
        self.assertEqual(missed_corner(told, (), DOWN), 0)
        self.assertEqual(missed_corner(told, [list(one) for one in TWO], list(DOWN)), 0)
        some = stops("0:1/4 2:1/2 1:1/8 1:7/8")
        self.assertEqual(missed_corner(told, some, DOWN), 1)
        self.assertEqual(missed_corner(told, some, row("1 0")), 2)

    def test_first_of_all(self):
        found = {}
        for told, some in cases():
            for direction in some_directions(told, some):
                missed = [at for at, corner in enumerate(told.corners)
                          if not is_borne(told, some, pull_at(corner, direction))]
                self.assertEqual(missed_corner(told, some, direction), missed[0] if missed else None)
                found[missed[0] if missed else None] = True
                if not missed:
                    corners = borne_places(told, some, direction).corners
                    self.assertEqual(set(corners), set(told.corners))
        self.assertGreaterEqual(set(found), {None, 0, 1, 2})

    def test_refuses(self):
        refuses_stops(self, lambda some: missed_corner(work(TRIANGLE), some, None))
        for thing in NO_DIRECTIONS:
            for some in (TWO, FIRM, ()):
                refused(self, BadDirection, lambda: missed_corner(work(BOX), some, thing))


def near_directions(some):
    """Directions, and for each of them two that lie hardly beside it."""
    found = []
    for x, y in [values(one) for one in some]:
        found += [row(x, y), row(-x, -y), row(x - TINY * y, y + TINY * x), row(x + TINY * y, y - TINY * x)]
    return found


class BorneDirections(unittest.TestCase):

    def test_by_hand(self):
        told, place = work(BOX), row("2 1")
        self.assertEqual(borne_directions(told, TWO, place), ("ray", row("0 -1")))
        self.assertEqual(borne_directions(told, [list(one) for one in TWO], list(place)), ("ray", row("0 -1")))
        self.assertIsNone(borne_directions(told, TWO, row("1/2 1")))
        self.assertIsNone(borne_directions(told, (), place))
        self.assertEqual(borne_directions(told, FIRM, place), ("all",))
        self.assertEqual(borne_directions(told, FIRM, row("200 -1/3")), ("all",))
        self.assertEqual(borne_directions(told, stops("1:1/2 3:1/2"), place), ("line", row("1 0")))
        self.assertEqual(borne_directions(told, stops("0:1/2 1:1/2"), place), ("wedge", row("0 -1"), row("1 0")))
        expected = ("half", row("-1 0"), row("1 0"))
        self.assertEqual(borne_directions(told, stops("0:1/2 1:1/2 3:1/2"), place), expected)

    def test_shapes(self):
        kinds = {}
        for told, some in cases():
            lines = rows_of(told, some)
            for place in [told.middle, told.corners[1]] + [row(*meet) for meet in meets_of(lines)[:2]]:
                found = borne_directions(told, some, place)
                is_new_tuple(self, found)
                kinds[None if found is None else found[0]] = True
                own = () if found is None else found[1:]
                for direction in near_directions(some_directions(told, some)[:7] + list(own)):
                    borne = is_borne(told, some, pull_at(place, direction))
                    self.assertEqual(in_shape(found, direction), borne, (some, place, direction))
        self.assertEqual(set(kinds), {None, "all", "half", "wedge", "line", "ray"})

    def test_great_numbers(self):
        told = work(SQUARE)
        near = ((0, ratio(Fraction(1, GREAT))), (3, ratio(Fraction(1, GREAT + 2))))
        place = row(Fraction(1, GREAT), Fraction(GREAT + 1, GREAT + 2))
        self.assertEqual(borne_directions(told, near, place), ("wedge", row("-1 0"), row("0 -1")))

    def test_refuses(self):
        refuses_stops(self, lambda some: borne_directions(work(TRIANGLE), some, None))
        for thing in NO_COUPLES:
            for some in (TWO, ()):
                refused(self, BadPlace, lambda: borne_directions(work(BOX), some, thing))


class WeightPlace(unittest.TestCase):

    def test_by_hand(self):
        self.assertEqual(weight_place(work(BOX)), row("2 1"))
        self.assertEqual(weight_place(work(TRIANGLE)), row("4/3 1"))
        self.assertEqual(weight_place(work("0,0 4,0 2,2 0,2")), row("14/9 8/9"))

    def test_by_moments(self):
        for told in some_works() + (work(SKEW).shifted(row(GREAT, Fraction(1, GREAT))),):
            corners = [values(corner) for corner in told.corners]
            area, along, up = Fraction(0), Fraction(0), Fraction(0)
            for (a, b), (c, d) in zip(corners, corners[1:] + corners[:1]):
                area += a * d - b * c
                along += (a + c) * (a * d - b * c) / 3
                up += (b + d) * (a * d - b * c) / 3
            found = weight_place(told)
            is_new_tuple(self, found)
            self.assertEqual(found, row(along / area, up / area))
            self.assertTrue(told.is_within(found))
            self.assertEqual(weight_place(told.begun_at(2)), found)


if __name__ == "__main__":
    unittest.main()
