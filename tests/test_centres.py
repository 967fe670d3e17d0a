"""[5.3], [5.4]: swings, halves of centres, and the extents of centres."""

import random
import unittest
from fractions import Fraction

from firmstops.areas import Area, Empty, Point, Segment, Unbounded, extent_sign, middle_of
from firmstops.barring import rates_of
from firmstops.centres import about_place, centre_half, centres_at, centres_of, check_swing
from firmstops.errors import BadPlace, BadStop, BadSwing, BadWay
from firmstops.freely import free_slides
from firmstops.motions import turn_motion
from firmstops.works import Work

from helpers import BOX, NO_COUPLES, NO_SWINGS, NO_WAYS, SWINGS, TRIANGLE
from helpers import couples, fill_an_area, hold_cases, is_new_tuple, meetings, past_after, ratio, refused
from helpers import refuses_stops, row, some_stops, some_works, stops, values, work

WAYS = ("left", "right")
GREAT = 10 ** 200 + 9


def some_places(told, seed, many):
    chance = random.Random(seed)
    found = list(told.corners[:1]) + [told.middle]
    for _ in range(many):
        found.append(row(Fraction(chance.randrange(-20, 40), 5), Fraction(chance.randrange(-20, 40), 7)))
    return found


class Swings(unittest.TestCase):

    def test_swings(self):
        for text in SWINGS:
            self.assertEqual(check_swing(ratio(text)), ratio(text))
        self.assertEqual(check_swing((1, GREAT)), (1, GREAT))
        for thing in NO_SWINGS:
            refused(self, BadSwing, lambda: check_swing(thing))


class CentreHalf(unittest.TestCase):

    def test_by_hand(self):
        told, stop = work(BOX), stops("0:1/4")[0]
        # d = (4, 0), N = (0, 4), p = (1, 0).
        self.assertEqual(centre_half(told, stop, "left", ratio(0)), row("-4 0 -4"))
        self.assertEqual(centre_half(told, stop, "right", ratio(0)), row("4 0 4"))
        self.assertEqual(centre_half(told, list(stop), "left", ratio("1/2")), row("-4 -2 -4"))
        self.assertEqual(centre_half(told, stop, "right", ratio("1/2")), row("4 -2 4"))
        self.assertEqual(centre_half(told, stops("1:1/2")[0], "left", ratio(1)), row("2 -2 6"))
        self.assertEqual(centre_half(told, stops("1:1/2")[0], "right", ratio(1)), row("2 2 10"))

    def test_what_the_half_tells(self):
        seen = {True: 0, False: 0}
        for told in some_works():
            for stop in some_stops(told, 220, 3):
                for way in WAYS:
                    for text in SWINGS[1:]:
                        half = centre_half(told, stop, way, ratio(text))
                        is_new_tuple(self, half)
                        p, q, r = values(half)
                        for centre in some_places(told, 221, 4):
                            x, y = values(centre)
                            let = p * x + q * y >= r
                            past = past_after(told, (stop,), centre, way, ratio(text))
                            self.assertEqual(let, past == ())
                            seen[let] += 1
        self.assertGreater(min(seen.values()), 100)

    def test_just_at_the_rim(self):
        told, stop = work(BOX), stops("0:1/4")[0]
        tiny = Fraction(1, GREAT)
        for way, sign in (("left", 1), ("right", -1)):
            for k in (Fraction(1, 2), tiny, Fraction(GREAT)):
                p, q, r = values(centre_half(told, stop, way, ratio(k)))
                y = (r - p * 7) / q
                for off, past in ((0, ()), (tiny, (0,)), (-tiny, ())):
                    self.assertEqual(past_after(told, (stop,), row(7, y + off), way, ratio(k)), past, (way, sign))

    def test_swing_zero(self):
        for told in some_works():
            for stop in some_stops(told, 222, 3):
                for way in WAYS:
                    p, q, r = values(centre_half(told, stop, way, ratio(0)))
                    for centre in some_places(told, 223, 8) + [told.place_at(*stop)]:
                        x, y = values(centre)
                        rate = rates_of(told, (stop,), turn_motion(centre, way))[0]
                        self.assertEqual(p * x + q * y >= r, rate[0] >= 0)

    def test_refuses(self):
        told, stop = work(TRIANGLE), stops("0:1/4")[0]
        for thing, what in ((None, "stop"), ((3, None), "side"), ((0, ratio(1)), "spot")):
            refused(self, BadStop, lambda: centre_half(told, thing, None, None), 0, what)
        for way in NO_WAYS:
            refused(self, BadWay, lambda: centre_half(told, stop, way, None))
        for swing in NO_SWINGS:
            refused(self, BadSwing, lambda: centre_half(told, stop, "left", swing))


class Centres(unittest.TestCase):

    def test_the_example(self):
        told = work(TRIANGLE)
        for way in WAYS:
            self.assertEqual(centres_of(told, stops("0:1/4 1:3/5 2:2/3"), way), Point(row("1 1")))
        some = [list(one) for one in stops("0:1/2 1:3/5 2:2/3")]
        self.assertEqual(centres_of(told, some, "left"), Area(couples("1,1 2,1 2,7/3")))
        self.assertEqual(centres_of(told, some, "right"), Empty())
        self.assertIsInstance(centres_at(told, some, "left", ratio("1/4")), Area)
        self.assertIsInstance(centres_at(told, some, "left", ratio("1/3")), Point)
        self.assertEqual(centres_at(told, some, "left", ratio("2/5")), Empty())

    def test_by_hand(self):
        told = work(BOX)
        for way in WAYS:
            for text in SWINGS:
                for some in ("", "0:1/2", "0:1/2 2:1/2 3:1/2"):
                    self.assertEqual(centres_at(told, stops(some), way, ratio(text)), Unbounded())
            self.assertEqual(centres_of(told, [], way), Unbounded())
        some = stops("0:1/4 0:3/4 2:1/2 1:1/2 3:1/2")
        for way in WAYS:
            self.assertEqual(centres_of(told, some, way), Empty())
        flush = stops("0:3/4 1:1/2 2:1/2 3:1/2")
        self.assertEqual(centres_of(told, flush, "left"), Segment(row("2 1"), row("3 1")))
        self.assertEqual(centres_of(told, flush, "right"), Empty())

    def test_extents(self):
        kinds = {}
        for told, some in hold_cases():
            for way in WAYS:
                for text in SWINGS:
                    swing = ratio(text)
                    found = centres_at(told, some, way, swing)
                    if text == "0":
                        self.assertEqual(found, centres_of(told, some, way))
                    kinds[found.__class__] = kinds.get(found.__class__, 0) + 1
                    self.assertEqual(isinstance(found, Unbounded), free_slides(told, some) is not None)
                    if not isinstance(found, Unbounded):
                        halves = [centre_half(told, stop, way, swing) for stop in some]
                        places = meetings(halves)
                        self.assertEqual(isinstance(found, Area), fill_an_area(places))
                        self.assertEqual(isinstance(found, Empty), not places)
                        self.centres_are_right(told, some, way, swing, found)
        self.assertEqual(set(kinds), {Empty, Point, Segment, Area, Unbounded})

    def centres_are_right(self, told, some, way, swing, found):
        tries = some_places(told, 224, 3)
        if not isinstance(found, Empty):
            tries += [middle_of(found)]
        if isinstance(found, Area):
            tries += list(found.corners)
        for centre in tries:
            let = extent_sign(found, centre) >= 0
            if swing == ratio(0):
                rates = rates_of(told, some, turn_motion(centre, way))
                self.assertEqual(let, all(rate[0] >= 0 for rate in rates))
            else:
                self.assertEqual(let, past_after(told, some, centre, way, swing) == ())

    def test_both_ways(self):
        both = 0
        for told, some in hold_cases():
            left, right = (centres_of(told, some, way) for way in WAYS)
            if isinstance(left, Unbounded):
                continue
            if not isinstance(left, Empty) and not isinstance(right, Empty):
                self.assertIsInstance(left, Point)
                self.assertEqual(left, right)
                both += 1
            for one, other in ((left, right), (right, left)):
                if isinstance(one, (Area, Segment)):
                    self.assertEqual(other, Empty())
        self.assertGreater(both, 2)

    def test_great_numbers(self):
        told = Work([row(0, 0), row(4 * GREAT, 0), row(0, 3 * GREAT)])
        found = centres_of(told, stops("0:1/2 1:3/5 2:2/3"), "left")
        self.assertEqual(found, Area((row(GREAT, GREAT), row(2 * GREAT, GREAT),
                                      row(2 * GREAT, Fraction(7 * GREAT, 3)))))

    def test_refuses(self):
        told, some = work(TRIANGLE), stops("0:1/4 1:1/2 2:1/2")
        refuses_stops(self, lambda one: centres_at(told, one, None, None), lambda one: centres_of(told, one, None))
        for kept in (some, ()):
            for way in NO_WAYS:
                refused(self, BadWay, lambda: centres_at(told, kept, way, None))
                refused(self, BadWay, lambda: centres_of(told, kept, way))
            for swing in NO_SWINGS:
                refused(self, BadSwing, lambda: centres_at(told, kept, "right", swing))


class AboutPlace(unittest.TestCase):

    def test_by_hand(self):
        told = work(TRIANGLE)
        some = stops("0:1/2 1:3/5 2:2/3")
        for place, left, right in (("5/3 13/9", "free", "barred"), ("1 1", "grazed", "barred"),
                                   ("2 1", "grazed", "barred"), ("3/2 1", "grazed", "barred"),
                                   ("0 0", "barred", "barred")):
            self.assertEqual(about_place(told, some, row(place), "left"), left, place)
            self.assertEqual(about_place(told, [list(one) for one in some], list(row(place)), "right"), right, place)
        bend = stops("0:1/4 1:3/5 2:2/3")
        self.assertEqual([about_place(told, bend, row("1 1"), way) for way in WAYS], ["grazed", "grazed"])
        self.assertEqual([about_place(told, (), row("1 1"), way) for way in WAYS], ["free", "free"])

    def test_rates(self):
        seen = {}
        for told, some in hold_cases():
            for place in some_places(told, 225, 3) + [told.place_at(*stop) for stop in some[:2]]:
                for way in WAYS:
                    rates = [rate[0] for rate in rates_of(told, some, turn_motion(place, way))]
                    least = min(rates + [1])
                    expected = "barred" if least < 0 else ("grazed" if least == 0 else "free")
                    self.assertEqual(about_place(told, some, place, way), expected)
                    seen[expected] = seen.get(expected, 0) + 1
        self.assertEqual(set(seen), {"barred", "grazed", "free"})

    def test_refuses(self):
        told, some = work(TRIANGLE), stops("0:1/4 1:1/2 2:1/2")
        refuses_stops(self, lambda one: about_place(told, one, None, None))
        for kept in (some, ()):
            for way in NO_WAYS:
                refused(self, BadWay, lambda: about_place(told, kept, None, way))
            for place in NO_COUPLES:
                refused(self, BadPlace, lambda: about_place(told, kept, place, "left"))


if __name__ == "__main__":
    unittest.main()
