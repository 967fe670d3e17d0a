"""[4.8], [4.9], [4.10]: worn works, rods pressed onto other works, and how far a work can be worn."""

import random
import unittest
from fractions import Fraction
from itertools import product as products

from firmstops.errors import BadShares, BadStop, NoMeeting, WornOut
from firmstops.firm import firm_lack, is_firm, meet_of
from firmstops.freely import free_slides
from firmstops.pushes import row_of
from firmstops.works import Work
from firmstops.worn import pressed_stops, rod_of, wear_limit, worn_work

from helpers import BOX, EIGHT, NO_RATIOS, NO_SEQUENCES, SKEW, SQUARE, TRIANGLE
from helpers import couples, is_new_tuple, is_plain, product, ratio, refused, refuses_stops, row, some_stops
from helpers import some_works, stops, value, values, work

GREAT = 10 ** 250 + 9


def worn_corners(told, shares):
    """The corners of a worn work in Fractions, also where its sides are worn away."""
    lines = []
    for corner, normal, share in zip(told.corners, told.normals, shares):
        (x, y), (a, b) = values(corner), values(normal)
        lines.append((a, b, a * x + b * y + share * (a * a + b * b)))
    found = []
    for at, (d, e, f) in enumerate(lines):
        a, b, c = lines[at - 1]
        turn = a * e - b * d
        found.append(((c * e - f * b) / turn, (a * f - d * c) / turn))
    return found


def first_worn_out(told, shares):
    """The first side that is worn away, by Fractions, or None."""
    corners = worn_corners(told, shares)
    for at in range(len(told)):
        (x, y), (a, b) = corners[at], corners[(at + 1) % len(told)]
        dx, dy = values(told.side_of(at))
        if (a - x) * dx + (b - y) * dy <= 0:
            return at
    return None


class Worn(unittest.TestCase):

    def test_by_hand(self):
        told = work(BOX)
        self.assertEqual(worn_work(told, row("0 0 0 0")), told)
        self.assertEqual(worn_work(told, row("1/8 0 0 0")), work("0,1/2 4,1/2 4,2 0,2"))
        self.assertEqual(worn_work(told, list(row("-1/4 0 0 0"))), work("0,-1 4,-1 4,2 0,2"))
        self.assertEqual(worn_work(told, row("0 1/2 -1/2 0")), work("0,0 3,0 3,4 0,4"))
        self.assertEqual(worn_work(told, row("0 0 0 -1")), work("-2,0 4,0 4,2 -2,2"))
        self.assertEqual(worn_work(work(TRIANGLE), row("1/16 0 0")), work("0,1/4 11/3,1/4 0,3"))

    def test_worn_works(self):
        chance = random.Random(180)
        for told in some_works():
            for _ in range(12):
                shares = [Fraction(chance.randrange(-40, 12), 80) for _ in range(len(told))]
                out = first_worn_out(told, shares)
                if out is not None:
                    refused(self, WornOut, lambda: worn_work(told, row(*shares)), out)
                    continue
                found = worn_work(told, row(*shares))
                self.assertIsInstance(found, Work)
                self.assertEqual([values(one) for one in found.corners], worn_corners(told, shares))
                for side, share in enumerate(shares):
                    square = product(told.normals[side], told.normals[side])
                    for place in (found.corners[side], found.corners[(side + 1) % len(told)]):
                        self.assertEqual(value(told.value_at(side, place)), share * square)

    def test_just_away(self):
        told = work(BOX)
        for text, side in (("0 1 0 1", 0), ("0 2 0 0", 0), ("0 2 0 2", 0), ("1/4 0 1/4 0", 1), ("1/2 0 0 0", 1),
                           ("0 0 3/4 0", 1), ("1 3 1 3", 0), ("-1 0 3/2 0", 1)):
            refused(self, WornOut, lambda: worn_work(told, row(text)), side)
        tiny = Fraction(1, GREAT)
        self.assertEqual(worn_work(told, row(0, 1, 0, 1 - tiny)).corners[0], row(2 - 2 * tiny, 0))
        refused(self, WornOut, lambda: worn_work(told, row(0, 1, 0, 1 + tiny)), 0)
        cut = work("0,0 4,0 4,3 3,4 0,4")
        self.assertEqual(len(worn_work(cut, row("0 0 1/2 0 0"))), 5)
        refused(self, WornOut, lambda: worn_work(cut, row("0 0 -1/2 0 0")), 2)
        refused(self, WornOut, lambda: worn_work(cut, row("0 0 -1 0 0")), 2)
        refused(self, WornOut, lambda: worn_work(cut, row("0 1/3 0 0 0")), 2)
        refused(self, WornOut, lambda: worn_work(cut, row("0 0 0 1/3 0")), 2)
        refused(self, WornOut, lambda: worn_work(cut, row("0 0 3 0 0")), 1)

    def test_a_triangle_worn_away_at_once(self):
        for shares in (row("1/16 0 0"), row("-5 -5 -5")):
            self.assertEqual(len(worn_work(work(TRIANGLE), shares)), 3)
        refused(self, WornOut, lambda: worn_work(work(TRIANGLE), row("1 1 1")), 0)
        refused(self, WornOut, lambda: worn_work(work(TRIANGLE), row("3/4 0 0")), 0)

    def test_shares(self):
        told = work(TRIANGLE)
        for thing in NO_SEQUENCES + ((), row("0 0"), row("0 0 0 0"), (None,), [1, 2], ("x",) * 4):
            refused(self, BadShares, lambda: worn_work(told, thing), 0)
        for thing in NO_RATIOS:
            for at in range(3):
                shares = [ratio(0)] * 3
                shares[at] = thing
                refused(self, BadShares, lambda: worn_work(told, shares), at)
                refused(self, BadShares, lambda: worn_work(told, tuple(shares[:at] + [thing] * (3 - at))), at)
        refused(self, BadShares, lambda: worn_work(told, (ratio(9), ratio(9), 0)), 2)


class Rods(unittest.TestCase):

    def test_by_hand(self):
        self.assertEqual(rod_of(work(BOX), stops("0:1/4")[0]), row("0 1 1"))
        self.assertEqual(rod_of(work(BOX), [0, ratio("1/8")]), row("0 2 1"))
        self.assertEqual(rod_of(work(TRIANGLE), stops("1:3/5")[0]), row("-3 -4 -1"))

    def test_rods(self):
        for told in some_works():
            for stop in some_stops(told, 181, 6):
                rod, line = values(rod_of(told, stop)), values(row_of(told, stop))
                is_new_tuple(self, rod_of(told, stop))
                self.assertTrue(is_plain(rod_of(told, stop)))
                by = [a / b for a, b in zip(line, rod) if b != 0][0]
                self.assertGreater(by, 0)
                self.assertEqual(line, tuple(by * one for one in rod))

    def test_stops_come_first(self):
        told = work(TRIANGLE)
        refuses_stops(self, lambda some: pressed_stops(told, some, told), lambda some: wear_limit(told, some))
        for stop, what in ((None, "stop"), ((0,), "stop"), ((3, None), "side"), ((0, (1, 1)), "spot")):
            refused(self, BadStop, lambda: rod_of(told, stop), 0, what)


class Pressed(unittest.TestCase):

    def test_by_hand(self):
        told, some = work(BOX), stops("0:1/4 2:1/2 0:1/4")
        self.assertEqual(pressed_stops(told, some, told), some)
        self.assertEqual(pressed_stops(told, [list(one) for one in some], work("-4,-7 4,-7 4,9 -4,9")),
                         stops("0:5/8 2:1/4 0:5/8"))
        self.assertEqual(pressed_stops(told, [], work(TRIANGLE)), ())
        self.assertEqual(pressed_stops(told, stops("0:1/2 3:3/4"), work(TRIANGLE)), stops("0:1/2 2:5/6"))
        self.assertEqual(pressed_stops(work(TRIANGLE), stops("0:3/8 2:1/2"), work(EIGHT)), stops("0:1/2 6:1/2"))

    def test_no_such_side(self):
        told = work(BOX)
        refused(self, NoMeeting, lambda: pressed_stops(told, stops("0:1/2 3:3/4 2:1/2 1:1/2"), work(TRIANGLE)), 2)
        refused(self, NoMeeting, lambda: pressed_stops(told, stops("1:1/2"), work(TRIANGLE)), 0)
        refused(self, NoMeeting, lambda: pressed_stops(work(TRIANGLE), stops("0:3/8 1:1/2"), work(BOX)), 1)

    def test_the_opposite_side_is_none(self):
        refused(self, NoMeeting, lambda: pressed_stops(work(TRIANGLE), stops("0:1/2"), work("0,0 4,3 0,3")), 0)

    def test_spots_strictly_between(self):
        told, other = work(BOX), work("1,-1 3,-1 3,1 1,1")
        tiny = Fraction(1, GREAT)
        for spot in ("1/8", "1/4", "3/4", "7/8"):
            refused(self, NoMeeting, lambda: pressed_stops(told, stops("0:1/2 0:" + spot), other), 1)
        for end in (Fraction(1, 4) - tiny, Fraction(3, 4) + tiny):
            refused(self, NoMeeting, lambda: pressed_stops(told, [(0, ratio(end))], other), 0)
        for end in (Fraction(1, 4) + tiny, Fraction(3, 4) - tiny):
            self.assertEqual(pressed_stops(told, [(0, ratio(end))], other), ((0, ratio(2 * end - Fraction(1, 2))),))

    def test_all_stops_are_checked_first(self):
        told = work(TRIANGLE)
        refused(self, BadStop, lambda: pressed_stops(told, [(1, ratio("1/2")), (0, ratio(1))], work(BOX)), 1, "spot")

    def test_the_same_rods(self):
        pairs = []
        for told in some_works():
            pairs += [(told, told.shifted(row("1/9 -1/11")).grown(ratio("11/10"))), (told, told.grown(ratio(3))),
                      (told, told.begun_at(1))]
        pairs += [(work(SQUARE), work(EIGHT)), (work(EIGHT), work(BOX)), (work(BOX), work("0,0 3,-1 4,0 4,2 0,2")),
                  (work(SKEW), worn_work(work(SKEW), row("1/9 0 -1/7 1/20 -1/3")))]
        many = 0
        for told, other in pairs:
            some = some_stops(told, 182, 8)
            facing = [stop for stop in some if self.is_met(told, stop, other)]
            if len(facing) < len(some):
                first = [at for at, stop in enumerate(some) if stop not in facing][0]
                refused(self, NoMeeting, lambda: pressed_stops(told, some, other), first)
            found = pressed_stops(told, facing, other)
            is_new_tuple(self, found)
            self.assertEqual([rod_of(other, stop) for stop in found], [rod_of(told, stop) for stop in facing])
            self.assertEqual(is_firm(other, found), is_firm(told, facing))
            self.assertEqual(firm_lack(other, found), firm_lack(told, facing))
            self.assertEqual(meet_of(other, found), meet_of(told, facing))
            self.assertEqual(free_slides(other, found), free_slides(told, facing))
            many += len(found)
        self.assertGreater(many, 60)

    def is_met(self, told, stop, other):
        """Whether a rod meets another work, by the rows of all spots of its sides."""
        rod = values(rod_of(told, stop))
        for side, normal in enumerate(other.normals):
            a, b = values(normal)
            if a * rod[1] == b * rod[0] and a * rod[0] + b * rod[1] > 0:
                by = (a * rod[0] + b * rod[1]) / (rod[0] ** 2 + rod[1] ** 2)
                (x, y), (dx, dy) = values(other.corners[side]), values(other.side_of(side))
                # The row at spot s turns by (x b - y a) + s (dx b - dy a).
                spot = (by * rod[2] - (x * b - y * a)) / (dx * b - dy * a)
                return 0 < spot < 1
        return False


class Limit(unittest.TestCase):

    def can_be_worn(self, told, some, shares):
        try:
            pressed_stops(told, some, worn_work(told, shares))
        except (WornOut, NoMeeting):
            return False
        return True

    def test_by_hand(self):
        told = work(BOX)
        limit, shares = wear_limit(told, ())
        self.assertEqual(limit, ratio("1/4"))
        self.assertEqual((shares[0], shares[2]), (ratio("1/4"), ratio("1/4")))
        self.assertEqual(wear_limit(told, stops("0:1/8"))[0], ratio("1/4"))
        limit, shares = wear_limit(told, stops("0:1/2 0:1/16"))
        self.assertEqual((limit, shares[3]), (ratio("1/8"), ratio("1/8")))
        limit, shares = wear_limit(told, [[2, ratio("1/16")]])
        self.assertEqual((limit, shares[1]), (ratio("1/8"), ratio("1/8")))
        limit, shares = wear_limit(told, stops("0:15/16"))
        self.assertEqual((limit, shares[1]), (ratio("1/8"), ratio("1/8")))
        self.assertEqual(wear_limit(work(TRIANGLE), ())[0], ratio("6/25"))

    def test_limits(self):
        chance = random.Random(183)
        for told in some_works():
            for many in (0, 1, 3, 8):
                some = some_stops(told, 184 + many, many)
                limit, shares = wear_limit(told, [list(one) for one in some])
                is_new_tuple(self, (limit, shares))
                size = value(limit)
                self.assertGreater(size, 0)
                self.assertEqual(len(shares), len(told))
                self.assertTrue(all(abs(value(one)) <= size for one in shares))
                self.assertFalse(self.can_be_worn(told, some, shares))
                near = size * (1 - Fraction(1, 10 ** 30))
                # What can go wrong goes straight with the shares, so their ends tell for all.
                corners = list(products((-near, near), repeat=len(told)))
                for ends in chance.sample(corners, min(8, len(corners))):
                    self.assertTrue(self.can_be_worn(told, some, row(*ends)))
                worst = [near if value(one) > 0 else -near for one in shares]
                self.assertTrue(self.can_be_worn(told, some, row(*worst)))

    def test_all_ends(self):
        for text, some in ((TRIANGLE, "0:1/4 1:3/5 2:2/3"), (BOX, "0:1/16 2:1/2"), (SKEW, "0:1/3 4:9/10")):
            told, kept = work(text), stops(some)
            size = value(wear_limit(told, kept)[0])
            for by in (Fraction(1, 2), 1 - Fraction(1, GREAT)):
                for ends in products((-size * by, size * by), repeat=len(told)):
                    self.assertTrue(self.can_be_worn(told, kept, row(*ends)))
            self.assertFalse(all(self.can_be_worn(told, kept, row(*ends))
                                 for ends in products((-size, size), repeat=len(told))))

    def test_great_numbers(self):
        told = Work(couples("0,0 1,0") + (row(1, GREAT), row(0, GREAT)))
        limit, shares = wear_limit(told, ())
        self.assertEqual(limit, ratio(Fraction(1, 2 * GREAT)))
        self.assertEqual((shares[1], shares[3]), (limit, limit))


if __name__ == "__main__":
    unittest.main()
