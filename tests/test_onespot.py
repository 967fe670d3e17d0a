"""[6.9], [6.10]: one further stop, and how many steps all stops may be off."""

import unittest
from fractions import Fraction

from firmstops.allspots import all_firm
from firmstops.centres import centre_half
from firmstops.errors import BadMost, BadStep, BadStop, NoSide
from firmstops.firm import is_firm
from firmstops.freely import cone_shape
from firmstops.held import is_held
from firmstops.onespot import holding_spots, slack_steps
from firmstops.stops import mirrored_stops
from firmstops.works import Work

from helpers import BOX, NO_RATIOS, NO_SIDES, SQUARE, TRIANGLE
from helpers import couples, fill_an_area, is_new_tuple, meetings, ratio, refused, refuses_stops, row, some_stops
from helpers import some_works, stops, value, work

GREAT = 10 ** 200 + 9
FIRM = stops("0:1/2 1:1/2 2:1/4 3:3/4")
HELD_BY_ALL = (
    (TRIANGLE, "1:3/5 2:2/3", 0), (TRIANGLE, "0:1/4 1:3/5", 2), (TRIANGLE, "0:1/2 1:3/5 2:2/3", 0),
    (TRIANGLE, "0:1/8 1:3/5 2:2/3", 0), (BOX, "0:1/2 1:1/2 2:1/2", 3), (BOX, "0:1/2 1:1/2 2:1/4", 3),
    (BOX, "0:1/2 1:1/2 2:3/4", 3), (BOX, "0:1/2 1:1/2 2:1/2 3:1/2", 1), (BOX, "0:1/4 0:3/4 1:1/2 3:1/2", 2),
    (BOX, "0:1/4 0:3/4 2:1/2 1:1/2", 3), (BOX, "0:1/4 1:1/2", 2), (BOX, "", 0), (BOX, "0:1/8 0:1/4 1:1/2 3:1/2", 2),
    (BOX, "0:7/8 0:3/4 1:1/2 3:1/2", 2), (SQUARE, "0:1/3 1:1/3 2:2/3", 3),
)


def cases():
    for told in some_works():
        for many in range(2, 8):
            for seed in range(2):
                side = (many + seed) % len(told)
                yield told, some_stops(told, 340 + many + 20 * seed, many), side
    for text, some, side in HELD_BY_ALL:
        yield work(text), stops(some), side


def are_held_by(told, some):
    """Whether a work is held by any number of stops: no free slide, and the centres of neither way fill an area."""
    if cone_shape([told.normals[side] for side, _ in some]) is not None:
        return False
    return not any(fill_an_area(meetings([centre_half(told, stop, way, ratio(0)) for stop in some]))
                   for way in ("left", "right"))


class HoldingSpots(unittest.TestCase):

    def test_by_hand(self):
        triangle, box = work(TRIANGLE), work(BOX)
        # The normal lines of the two stops meet in (1, 1), so only the foot of that place holds.
        self.assertEqual(holding_spots(triangle, stops("1:3/5 2:2/3"), 0), row("1/4 1/4"))
        self.assertEqual(holding_spots(triangle, [list(one) for one in stops("0:1/4 1:3/5")], 2), row("2/3 2/3"))
        self.assertEqual(holding_spots(triangle, stops("0:1/2 1:3/5 2:2/3"), 0), row("0 1/4"))
        self.assertEqual(holding_spots(triangle, stops("0:1/8 1:3/5 2:2/3"), 0), row("1/4 1"))
        self.assertIsNone(holding_spots(triangle, stops("0:1/8 1:3/5"), 1))
        self.assertEqual(holding_spots(triangle, stops("0:1/4 1:3/5 2:2/3"), 0), row("0 1"))
        self.assertEqual(holding_spots(triangle, stops("0:1/4 1:3/5 2:2/3"), 1), row("0 1"))
        self.assertEqual(holding_spots(box, stops("0:1/2 1:1/2 2:1/2"), 3), row("0 1"))
        self.assertEqual(holding_spots(box, stops("0:1/2 1:1/2 2:1/4"), 3), row("1/2 1"))
        self.assertEqual(holding_spots(box, stops("0:1/2 1:1/2 2:3/4"), 3), row("0 1/2"))
        self.assertIsNone(holding_spots(box, stops("0:1/4 1:1/2"), 2))
        self.assertIsNone(holding_spots(box, (), 2))

    def test_a_meeting_beside_the_side(self):
        # The foot of the place where the two normal lines meet is on the side, at its corner, or beside it.
        corner = work("0,0 4,0 3,3 0,3")
        for text, side, expected in (("0:1/2 3:1/9", 2, None), ("0:3/4 3:1/3", 1, "7/10 7/10"),
                                     ("0:1/2 3:1/8", 1, "79/80 79/80"), ("0:1/2 3:1/9", 1, None),
                                     ("0:1/2 3:1/10", 1, None)):
            found = holding_spots(corner, stops(text), side)
            self.assertEqual(found, None if expected is None else row(expected), text)
            mirrored = holding_spots(corner.mirrored(), mirrored_stops(corner, stops(text)), 3 - side)
            self.assertEqual(mirrored is None, expected is None)
            if expected is not None:
                self.assertEqual(value(mirrored[0]), 1 - value(found[0]))

    def test_nine_stops(self):
        triangle = work(TRIANGLE)
        eight = stops("0:1/2 1:3/5 2:2/3") * 2 + stops("0:1/2 1:3/5")
        self.assertEqual(holding_spots(triangle, eight, 0), row("0 1/4"))
        three = stops("0:1/2 1:3/5 2:2/3")
        self.assertEqual(holding_spots(triangle, list(eight), 2), holding_spots(triangle, three, 2))
        for told in some_works()[:8]:
            some = some_stops(told, 341, 8)
            for side in range(len(told)):
                self.is_right(told, some, side, holding_spots(told, some, side))

    def test_spots(self):
        kinds = {}
        for told, some, side in cases():
            found = holding_spots(told, [list(one) for one in some], side)
            self.is_right(told, some, side, found)
            if found is None:
                kind = None
            else:
                kind = "one" if found[0] == found[1] else (found[0] == ratio(0), found[1] == ratio(1))
            kinds[kind] = kinds.get(kind, 0) + 1
        self.assertEqual(set(kinds), {None, "one", (True, True), (True, False), (False, True), (False, False)}, kinds)

    def is_right(self, told, some, side, found):
        tries = [Fraction(1, GREAT), Fraction(1, 7), Fraction(1, 2), Fraction(5, 6), 1 - Fraction(1, GREAT)]
        low, high = (1, 0) if found is None else (value(found[0]), value(found[1]))
        if found is not None:
            is_new_tuple(self, found)
            self.assertTrue(0 <= low <= high <= 1 and low < 1 and high > 0)
            tiny = Fraction(1, GREAT ** 3)
            tries += [low, high, (low + high) / 2, low - tiny, high + tiny]
        for spot in tries:
            if 0 < spot < 1:
                held = are_held_by(told, some + ((side, ratio(spot)),))
                self.assertEqual(held, low <= spot <= high, (some, side, spot))

    def test_the_same_as_is_held(self):
        for told, some, side in cases():
            found = holding_spots(told, some, side)
            for text in ("1/9", "1/2", "8/9"):
                held = is_held(told, some + ((side, ratio(text)),))
                expected = found is not None and value(found[0]) <= Fraction(text) <= value(found[1])
                self.assertEqual(held, expected)

    def test_great_numbers(self):
        told = Work(couples("0,0") + (row(4 * GREAT, 0), row(0, 3 * GREAT)))
        self.assertEqual(holding_spots(told, stops("1:3/5 2:2/3"), 0), row("1/4 1/4"))
        some = stops("1:3/5") + ((2, ratio(Fraction(2, 3) + Fraction(1, GREAT))),)
        found = holding_spots(told, some, 0)
        self.assertEqual(found, holding_spots(work(TRIANGLE), some, 0))
        self.is_right(told, some, 0, found)

    def test_refuses(self):
        told = work(TRIANGLE)
        refuses_stops(self, lambda some: holding_spots(told, some, None))
        for some in ((), stops("0:1/2"), stops("0:1/2 1:1/2 2:1/2")):
            for side in NO_SIDES:
                refused(self, NoSide, lambda: holding_spots(told, some, side), side)


class SlackSteps(unittest.TestCase):

    def test_by_hand(self):
        told = work(BOX)
        self.assertIsNone(slack_steps(told, stops("0:1/2 1:1/2 2:1/2 3:1/2"), ratio("1/100"), 12))
        self.assertIsNone(slack_steps(told, (), ratio(1), 0))
        # The lines of opposite stops are a quarter of the side apart, so each may be off by less than an eighth.
        for step, most, expected in (("1/16", 12, 1), ("1/32", 12, 3), ("1/32", 3, 3), ("1/32", 2, 2), ("1/32", 0, 0),
                                     ("1/8", 12, 0), ("1/100", 12, 12), ("1/100", 11, 11), ("7/100", 12, 1), ("9", 12, 0)):
            self.assertEqual(slack_steps(told, FIRM, ratio(step), most), expected, (step, most))
            self.assertEqual(slack_steps(told, [list(one) for one in FIRM], ratio(step), most), expected)

    def test_the_corners_end_the_steps(self):
        told = work(BOX)
        some = stops("0:1/16 0:15/16 1:1/2 2:1/2 3:1/2")
        self.assertTrue(is_firm(told, some))
        for step, expected in (("1/16", 0), ("1/32", 1), ("1/48", 2), ("1/64", 3), ("1/161", 10)):
            self.assertEqual(slack_steps(told, some, ratio(step), 12), expected)
        # The begin of a side ends them alone, or its end.
        for text in ("0:1/16 0:3/4 1:1/2 2:1/2 3:1/2", "0:1/4 0:15/16 1:1/2 2:1/2 3:1/2"):
            for step, expected in (("1/16", 0), ("1/32", 1), ("1/17", 1), ("1/161", 10)):
                self.assertEqual(slack_steps(told, stops(text), ratio(step), 12), expected)

    def fits(self, told, some, reach):
        if any(value(spot) - reach <= 0 or value(spot) + reach >= 1 for _, spot in some):
            return False
        around = [(side, ratio(value(spot) - reach), ratio(value(spot) + reach)) for side, spot in some]
        return all_firm(told, around) is None

    def test_steps(self):
        found = {}
        for at, told in enumerate(some_works()):
            for seed in range(4):
                some = some_stops(told, 350 + seed + at, 4 + seed % (3 if at < 8 else 1))
                for step, most in (("1/40", 5), ("1/300", 12)):
                    steps = slack_steps(told, some, ratio(step), most)
                    found[steps] = found.get(steps, 0) + 1
                    if not is_firm(told, some):
                        self.assertIsNone(steps)
                        continue
                    self.assertIs(steps.__class__, int)
                    if steps > 0:
                        self.assertTrue(self.fits(told, some, Fraction(step) * steps))
                    if steps < most:
                        self.assertFalse(self.fits(told, some, Fraction(step) * (steps + 1)))
        self.assertGreater(len(found), 5, found)

    def test_great_numbers(self):
        tiny = Fraction(1, GREAT)
        some = stops("0:1/2 1:1/2 2:1/2") + ((3, ratio(Fraction(1, 2) + tiny)), (3, ratio(Fraction(1, 2) - tiny)))
        self.assertEqual(slack_steps(work(BOX), some, ratio(tiny), 12), 0)
        steps = slack_steps(work(BOX), some, ratio(tiny / 100), 12)
        self.assertEqual(steps, 12)

    def test_stops(self):
        told = work(TRIANGLE)
        refuses_stops(self, lambda some: slack_steps(told, some, None, None))
        for many in (7, 8):
            refused(self, BadStop, lambda: slack_steps(told, stops("0:1/2 " * many), None, None), 0, "many")
        refused(self, BadStop, lambda: slack_steps(told, [(0, ratio("1/2"))] * 6 + [(0, ratio(1))], None, None), 6, "spot")
        self.assertIsNone(slack_steps(told, stops("0:1/2 " * 6), ratio(1), 0))

    def test_step_and_most(self):
        for some in (FIRM, (), stops("0:1/2")):
            for step in NO_RATIOS + (ratio(0), ratio(-1), (-1, GREAT)):
                refused(self, BadStep, lambda: slack_steps(work(BOX), some, step, None))
            for most in (-1, 13, True, False, None, 1.0, "1", (1, 1), [5], 10 ** 40):
                refused(self, BadMost, lambda: slack_steps(work(BOX), some, ratio("1/99"), most), most)


if __name__ == "__main__":
    unittest.main()
