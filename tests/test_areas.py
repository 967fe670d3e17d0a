"""[5.1], [5.2]: halves, extents, and where places lie in them."""

import random
import time
import unittest
from fractions import Fraction

from firmstops.areas import Area, Empty, Point, Segment, Unbounded
from firmstops.areas import common_extent, extent_sign, middle_of, work_halves
from firmstops.errors import BadHalves, BadPlace, NoMiddle
from firmstops.places import dot_of

from helpers import BOX, EIGHT, NO_COUPLES, NO_SEQUENCES, SKEW, TRIANGLE
from helpers import couples, fill_an_area, is_new_tuple, is_result, meetings, no_numbers, refused, row, rows
from helpers import some_works, value, values, work

GREAT = 10 ** 280 + 1


def leads_along_all(halves):
    """Whether some direction leads along all of some halves."""
    if not halves:
        return True
    # If some direction does, one at the rim of some half does.
    tries = [(sign * value(b), -sign * value(a)) for a, b, _ in halves for sign in (1, -1)]
    return any(all(value(a) * x + value(b) * y >= 0 for a, b, _ in halves) for x, y in tries)


def some_halves(seed, rounds):
    chance = random.Random(seed)
    found = []
    for _ in range(rounds):
        many, reach = chance.choice((1, 2, 3, 3, 4, 4, 5, 6, 8, 24)), chance.choice((1, 2, 3))
        kept = []
        while len(kept) < many:
            p, q, r = (chance.randrange(-reach, reach + 1) for _ in range(3))
            if p or q:
                by = chance.choice((1, 1, Fraction(2, 3), GREAT))
                kept.append(row(by * p, by * q, by * (r if chance.randrange(3) else r - 3)))
        found.append(kept)
    return found


class CommonExtent(unittest.TestCase):

    def test_by_hand(self):
        sides = rows("1 0 0", "-1 0 -4", "0 1 0", "0 -1 -2")
        self.assertEqual(common_extent(sides), Area(couples("0,0 4,0 4,2 0,2")))
        self.assertEqual(common_extent(sides + rows("-1 -1 -4")), Area(couples("0,0 4,0 2,2 0,2")))
        self.assertEqual(common_extent(rows("1 0 0", "0 1 0", "-1 -1 -1/2")), Area(couples("0,0 1/2,0 0,1/2")))
        self.assertEqual(common_extent(sides + rows("1 1 6")), Point(row("4 2")))
        self.assertEqual(common_extent(sides + rows("0 1 2")), Segment(row("0 2"), row("4 2")))
        self.assertEqual(common_extent(sides + rows("-1 0 0")), Segment(row("0 0"), row("0 2")))
        self.assertEqual(common_extent(sides + rows("1 1 4", "-1 -1 -4")), Segment(row("2 2"), row("4 0")))
        self.assertEqual(common_extent(sides + rows("1 1 7")), Empty())
        self.assertEqual(common_extent(sides + rows("-1 0 1")), Empty())
        self.assertEqual(common_extent(rows("1 0 1", "0 1 1", "-1 -1 -2")), Point(row("1 1")))
        self.assertEqual(common_extent(rows("1 0 1", "-1 0 -1", "0 1 5", "0 -1 -5")), Point(row("1 5")))

    def test_unbounded(self):
        for halves in ([], (), rows("1 0 7"), rows("1 0 0", "1 0 1"), rows("1 0 0", "0 1 0"), rows("1 0 0", "-1 0 -1"),
                       rows("1 0 0", "-1 0 0"), rows("1 0 0", "-1 0 0", "0 1 3"), rows("1 1 0", "1 -1 0", "1 0 9")):
            self.assertEqual(common_extent(halves), Unbounded())

    def test_a_direction_without_any_common_place(self):
        for halves in (rows("1 0 1", "-1 0 0"), rows("1 0 1", "-1 0 0", "0 1 0"), rows("2 3 1", "-2 -3 1")):
            self.assertEqual(common_extent(halves), Unbounded())
        self.assertEqual(common_extent(rows("1 0 1", "-1 0 0", "0 1 0", "0 -1 -1")), Empty())

    def test_lists_stand_for_tuples_and_stay(self):
        halves = [list(half) for half in rows("1 0 0", "0 1 0", "-1 -1 -1")]
        found = common_extent(halves)
        self.assertEqual(found, Area(couples("0,0 1,0 0,1")))
        is_new_tuple(self, found.corners)
        self.assertEqual(halves, [list(half) for half in rows("1 0 0", "0 1 0", "-1 -1 -1")])

    def test_extents(self):
        kinds = {}
        for halves in some_halves(190, 1500):
            found = common_extent(halves)
            kinds[found.__class__] = kinds.get(found.__class__, 0) + 1
            self.assertEqual(found.__class__ is Unbounded, leads_along_all(halves))
            if found.__class__ is not Unbounded:
                self.is_right(found, meetings(halves))
        self.assertEqual(set(kinds), {Empty, Point, Segment, Area, Unbounded})
        self.assertGreater(min(kinds.values()), 8)

    def is_right(self, found, places):
        if not fill_an_area(places):
            self.assertEqual(found.__class__, (Empty, Point, Segment)[len(places)])
        if isinstance(found, Point):
            self.assertEqual({values(found.place)}, places)
        elif isinstance(found, Segment):
            self.assertEqual([values(found.one), values(found.other)], sorted(places))
        elif isinstance(found, Area):
            corners = [values(one) for one in found.corners]
            self.assertEqual((set(corners), corners[0], len(corners)), (places, min(places), len(places)))
            for (a, b), (c, d), (e, f) in zip(corners, corners[1:] + corners[:1], corners[2:] + corners[:2]):
                self.assertGreater((c - a) * (f - d) - (d - b) * (e - c), 0)

    def test_the_order_of_halves_does_not_matter(self):
        chance = random.Random(191)
        for halves in some_halves(192, 150):
            found = common_extent(halves)
            other = [row(*[3 * one for one in values(half)]) for half in halves + halves[:2]]
            chance.shuffle(other)
            self.assertEqual(common_extent(other), found)

    def test_great_numbers(self):
        tiny = Fraction(1, GREAT)
        self.assertEqual(common_extent((row(1, 0, tiny), row(0, 1, 0), row(-1, -1, -tiny))), Point(row(tiny, 0)))
        self.assertEqual(common_extent((row(1, 0, tiny), row(0, 1, tiny), row(-1, -1, -tiny))), Empty())
        found = common_extent((row(1, tiny, 0), row(-1, tiny, -1), row(0, -GREAT, -1)))
        self.assertIsInstance(found, Area)
        chance = random.Random(193)
        many = []
        for _ in range(24):
            numbers = [Fraction(chance.randrange(-GREAT, GREAT), chance.randrange(1, GREAT)) for _ in range(2)]
            many.append(row(*numbers, Fraction(-chance.randrange(1, GREAT), chance.randrange(1, GREAT))))
        begin = time.time()
        found = common_extent(many)
        self.assertLess(time.time() - begin, 30)
        self.assertEqual(extent_sign(found, row("0 0")), 1)

    def test_bad_halves(self):
        for thing in NO_SEQUENCES:
            refused(self, BadHalves, lambda: common_extent(thing), 0)
        right = row("1 0 0")
        for thing in no_numbers(3) + [row("0 0 1"), list(row("0 0 0"))]:
            refused(self, BadHalves, lambda: common_extent([thing]), 0)
            refused(self, BadHalves, lambda: common_extent((right, right, thing, None)), 2)
        refused(self, BadHalves, lambda: common_extent([right, row("0 0 1"), 7]), 1)
        self.assertEqual(common_extent([list(row("0 1 1")), row("1 0 1")]), Unbounded())


class WorkHalves(unittest.TestCase):

    def test_by_hand(self):
        self.assertEqual(work_halves(work(TRIANGLE)), rows("0 4 0", "-3 -4 -12", "3 0 0"))

    def test_halves(self):
        for told in some_works():
            found = work_halves(told)
            is_new_tuple(self, found)
            self.assertEqual(len(found), len(told))
            for side, half in enumerate(found):
                self.assertEqual(half[:2], told.normals[side])
                self.assertEqual(half[2], dot_of(half[:2], told.corners[side]))
                self.assertEqual(half[2], dot_of(half[:2], told.corners[(side + 1) % len(told)]))
            least = min(range(len(told)), key=lambda at: values(told.corners[at]))
            self.assertEqual(common_extent(found), Area(told.begun_at(least).corners))


class Extents(unittest.TestCase):

    def test_classes(self):
        others = (None, row("5 5"), ())
        is_result(self, Point, {"place": [1, "x"]}, others)
        is_result(self, Segment, {"one": [1], "other": {"x": 2}}, others)
        is_result(self, Area, {"corners": (1, 2, 3)}, others)
        is_result(self, Empty, {}, ())
        is_result(self, Unbounded, {}, ())
        some = [Empty(), Unbounded(), Point(1), Area(1), Segment(1, 1)]
        for at, one in enumerate(some):
            for k, other in enumerate(some):
                self.assertEqual(one == other, at == k)

    def test_signs_by_hand(self):
        area = common_extent(work_halves(work(BOX)))
        for place, sign in (("1 1", 1), ("0 1", 0), ("4 2", 0), ("2 0", 0), ("5 1", -1), ("-1 0", -1), ("6 0", -1),
                            ("2 2", 0), ("2 3", -1), ("4 3", -1), ("1/9 1/9", 1), ("-1/9 1", -1)):
            self.assertEqual(extent_sign(area, row(place)), sign, place)
            self.assertEqual(extent_sign(area, list(row(place))), sign, place)
        segment = Segment(row("0 2"), row("4 0"))
        for place, sign in (("0 2", 0), ("4 0", 0), ("2 1", 0), ("1 3/2", 0), ("6 -1", -1), ("-2 3", -1), ("2 0", -1),
                            ("2 2", -1), ("0 0", -1), ("4 2", -1)):
            self.assertEqual(extent_sign(segment, row(place)), sign, place)
        upright = Segment(row("1 0"), row("1 5"))
        self.assertEqual([extent_sign(upright, row(1, y)) for y in (-1, 0, 3, 5, 6)], [-1, 0, 0, 0, -1])
        point = Point(row("1 2"))
        self.assertEqual([extent_sign(point, one) for one in couples("1,2 2,1 1,3 0,2")], [0, -1, -1, -1])
        self.assertEqual(extent_sign(Point(list(row("1 2"))), list(row("1 2"))), 0)
        self.assertEqual(extent_sign(Empty(), row("0 0")), -1)

    def test_signs(self):
        chance = random.Random(194)
        for text in (TRIANGLE, SKEW, EIGHT):
            told = work(text)
            area = common_extent(work_halves(told))
            for _ in range(150):
                place = row(Fraction(chance.randrange(-8, 28), 4), Fraction(chance.randrange(-8, 28), 4))
                expected = 1 if told.is_within(place) else (0 if place in told else -1)
                self.assertEqual(extent_sign(area, place), expected)
        tiny = Fraction(1, GREAT)
        area = Area((row(0, 0), row(1, 0), row(0, 1)))
        half = Fraction(1, 2)
        self.assertEqual([extent_sign(area, row(half, half + e)) for e in (-tiny, 0, tiny)], [1, 0, -1])

    def test_bad_places(self):
        for extent in (Empty(), Point(row("0 0")), Segment(row("0 0"), row("1 0")), Area(couples("0,0 1,0 0,1"))):
            for thing in NO_COUPLES:
                refused(self, BadPlace, lambda: extent_sign(extent, thing))

    def test_middles(self):
        self.assertEqual(middle_of(Point(row("1 2"))), row("1 2"))
        self.assertEqual(middle_of(Segment(row("0 2"), row("4 1"))), row("2 3/2"))
        self.assertEqual(middle_of(Area(couples("1,1 2,1 2,7/3"))), row("5/3 13/9"))
        self.assertEqual(middle_of(Area(couples("0,0 4,0 4,2 0,2"))), row("2 1"))
        for extent in (Point(list(row("1 2"))), Segment([(0, 1), (2, 1)], [(4, 1), (1, 1)]),
                       Area([list(one) for one in couples("0,0 1,0 0,1")])):
            is_new_tuple(self, middle_of(extent))
        for told in some_works():
            area = common_extent(work_halves(told))
            self.assertEqual(middle_of(area), told.middle)
            self.assertEqual(extent_sign(area, middle_of(area)), 1)
        for extent in (Empty(), Unbounded()):
            refused(self, NoMiddle, lambda: middle_of(extent))


if __name__ == "__main__":
    unittest.main()
