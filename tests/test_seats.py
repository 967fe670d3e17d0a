"""[9.7]: seats, slips, and the motions with which a work follows its seats."""

import random
import unittest
from fractions import Fraction

from firmstops.errors import BadMotion, BadSlips, BadStop, NoSeats
from firmstops.motions import slide_motion
from firmstops.places import place_plus, place_scaled
from firmstops.pushes import rows_of
from firmstops.seats import check_seats, seats_shift, slips_between, slips_of

from helpers import BOX, NO_MOTIONS, NO_RATIOS, NO_SEQUENCES, SKEW, TRIANGLE, Alike
from helpers import crossed, is_new_tuple, product, rank, ratio, refused, refuses_stops, row, some_stops, some_works
from helpers import stops, value, work

GREAT = 10 ** 280 + 3
SEATS = "0:1/4 0:1/2 3:1/2"
FEW = ("", "0:1/2", "0:1/2 1:1/2", "0:1/4 0:1/2 3:1/2 1:1/2", " ".join(["0:1/2"] * 8))
# Stops of a box on one side, at one spot, and with normal lines that meet at one place.
LOW = ("0:1/4 0:1/2 0:3/4", "0:1/2 0:1/2 3:1/2", "0:1/2 1:1/2 2:1/2", "0:1/2 1:1/2 3:1/2", "0:1/4 2:3/4 1:1/2")
NO_SLIPS = [(thing, 0, "many") for thing in NO_SEQUENCES + ((), row("1 1"), row("1 1 1 1"), [None] * 4)] + [
    ((thing,) + (None, None), 0, "slip") for thing in NO_RATIOS + (Alike(),)] + [
    (list(row("1 -1")) + [thing], 2, "slip") for thing in NO_RATIOS] + [
    ([ratio(0), 1, 1], 1, "slip"), ((ratio(-1), ratio(0), [1, 1]), 2, "slip")]


def cases():
    """Works with couples of seats, all of rank 3."""
    for at, told in enumerate(some_works()):
        found = []
        for seed in range(40):
            some = some_stops(told, 560 + 50 * at + seed, 3)
            if rank(rows_of(told, some)) == 3:
                found.append(some)
        for one, other in list(zip(found, found[1:]))[:6]:
            yield told, one, other


def some_slips(seed, many):
    """Slips of three seats, of all signs, also 0 and great ones."""
    chance = random.Random(seed)
    return [row(*[Fraction(chance.randrange(-reach, reach + 1), 3) for _ in range(3)])
            for reach in [1, 1, 4, GREAT] * many][:many]


class CheckSeats(unittest.TestCase):

    def test_by_hand(self):
        told = work(BOX)
        self.assertEqual(check_seats(told, stops(SEATS)), stops(SEATS))
        found = check_seats(told, [[0, (1, 4)], (0, (1, 2)), [3, (1, 2)]])
        self.assertEqual(found, stops(SEATS))
        is_new_tuple(self, found)

    def test_rank(self):
        seen = set()
        for at, told in enumerate(some_works()):
            for seed in range(25):
                some = some_stops(told, 1200 + 30 * at + seed, 3)
                good = rank(rows_of(told, some)) == 3
                seen.add(good)
                if good:
                    self.assertEqual(check_seats(told, list(some)), some)
                else:
                    refused(self, NoSeats, lambda: check_seats(told, some), "rank")
        self.assertEqual(seen, {True, False})

    def test_refuses(self):
        told = work(BOX)
        refuses_stops(self, lambda some: check_seats(work(TRIANGLE), some))
        for text in FEW:
            refused(self, NoSeats, lambda: check_seats(told, stops(text)), "many")
        for text in LOW:
            refused(self, NoSeats, lambda: check_seats(told, stops(text)), "rank")
        # Four of low rank are too many first.
        refused(self, NoSeats, lambda: check_seats(told, stops("0:1/4 0:1/2 0:3/4 0:1/8")), "many")
        refused(self, BadStop, lambda: check_seats(told, [(0, (1, 2)), (4, (1, 2))]), 1, "side")


class SeatsShift(unittest.TestCase):

    def test_by_hand(self):
        told = work(BOX)
        self.assertEqual(seats_shift(told, stops(SEATS), row("0 0 0")), row("0 0 0"))
        self.assertEqual(seats_shift(told, stops(SEATS), row("0 0 2")), row("1 0 0"))
        self.assertEqual(seats_shift(told, stops(SEATS), list(row("4 4 0"))), row("0 1 0"))
        self.assertEqual(seats_shift(told, stops(SEATS), row("0 4 0")), row("1 -1 1"))
        self.assertEqual(seats_shift(told, [list(one) for one in stops(SEATS)], row("1/2 0 0")), row("-1/8 1/4 -1/8"))

    def test_rates(self):
        for told, some, _ in cases():
            for slips in some_slips(561, 5):
                found = seats_shift(told, some, slips)
                is_new_tuple(self, found)
                self.assertEqual(tuple(product(line, found) for line in rows_of(told, some)),
                                 tuple(value(one) for one in slips))
                self.assertEqual(slips_of(told, some, found), slips)

    def test_slides_are_followed(self):
        # Each seat that is off by its slip along its normal is on the line of the slid side again.
        for told, some, _ in cases():
            for way in (row("1 0"), row("-2/3 5"), row(0, Fraction(1, GREAT))):
                slips = slips_of(told, some, slide_motion(way))
                self.assertEqual(seats_shift(told, some, slips), way + row(0))
                for stop, slip in zip(some, slips):
                    normal = told.normals[stop[0]]
                    by = place_scaled(normal, ratio(value(slip) / product(normal, normal)))
                    self.assertEqual(told.shifted(way).value_at(stop[0], place_plus(told.place_at(*stop), by)), (0, 1))

    def test_refuses(self):
        told = work(BOX)
        refuses_stops(self, lambda some: seats_shift(work(TRIANGLE), some, None))
        for text in FEW:
            refused(self, NoSeats, lambda: seats_shift(told, stops(text), None), "many")
        for text in LOW:
            refused(self, NoSeats, lambda: seats_shift(told, stops(text), None), "rank")
        for slips, index, what in NO_SLIPS:
            refused(self, BadSlips, lambda: seats_shift(told, stops(SEATS), slips), index, what)


class SlipsOf(unittest.TestCase):

    def test_by_hand(self):
        told = work(BOX)
        self.assertEqual(slips_of(told, stops(SEATS), row("0 0 0")), row("0 0 0"))
        self.assertEqual(slips_of(told, stops(SEATS), list(row("1 -1 1"))), row("0 4 0"))
        self.assertEqual(slips_of(told, [list(one) for one in stops(SEATS)], row("1/2 1/3 1/4")), row("7/3 10/3 1/2"))

    def test_reads_back(self):
        for told, some, _ in cases():
            for motion in some_slips(562, 6):
                found = slips_of(told, some, motion)
                is_new_tuple(self, found)
                self.assertEqual(found, row(*[product(line, motion) for line in rows_of(told, some)]))
                self.assertEqual(seats_shift(told, some, found), motion)

    def test_refuses(self):
        told = work(BOX)
        refuses_stops(self, lambda some: slips_of(work(TRIANGLE), some, None))
        for thing in NO_MOTIONS:
            for text in (SEATS,) + FEW[:2] + LOW[:2]:
                refused(self, BadMotion, lambda: slips_of(told, stops(text), thing))
        for text in FEW:
            refused(self, NoSeats, lambda: slips_of(told, stops(text), row("1 1 1")), "many")
        for text in LOW:
            refused(self, NoSeats, lambda: slips_of(told, stops(text), row("0 0 0")), "rank")


class SlipsBetween(unittest.TestCase):

    def test_by_hand(self):
        told = work(BOX)
        others = stops("1:1/2 2:1/2 0:1/8")
        # The motion is (1, -1, 1): at (4, 1), (2, 2) and (1/2, 0), with the normals (-2, 0), (0, -4) and (0, 4).
        self.assertEqual(slips_between(told, stops(SEATS), others, row("0 4 0")), row("0 -4 -2"))
        self.assertEqual(slips_between(told, stops(SEATS), list(others), list(row("0 0 2"))), row("-2 0 0"))
        self.assertEqual(slips_between(told, stops(SEATS), stops(SEATS), row("1 2 3")), row("1 2 3"))

    def test_same_motion(self):
        for told, some, others in cases():
            for slips in some_slips(563, 5):
                found = slips_between(told, some, others, slips)
                is_new_tuple(self, found)
                self.assertEqual(seats_shift(told, others, found), seats_shift(told, some, slips))
                self.assertEqual(slips_between(told, others, some, found), slips)

    def test_by_cross_products(self):
        # An answer apart from the package's own: the motion by Cramer's rule in fractions.
        for told, some, others in cases():
            one, two, three = rows_of(told, some)
            all_three = sum(value(a) * b for a, b in zip(one, crossed(two, three)))
            slips = row("1 -2 1/3")
            parts = [crossed(two, three), crossed(three, one), crossed(one, two)]
            motion = [sum(value(slip) * part[k] for slip, part in zip(slips, parts)) / all_three for k in range(3)]
            aims = [sum(value(a) * b for a, b in zip(line, motion)) for line in rows_of(told, others)]
            self.assertEqual(slips_between(told, some, others, slips), row(*aims))

    def test_refuses(self):
        told, triangle = work(BOX), work(TRIANGLE)
        low = stops(LOW[0])
        refuses_stops(self, lambda some: slips_between(triangle, some, None, None))
        refuses_stops(self, lambda some: slips_between(triangle, low, some, None))
        for text in FEW:
            refused(self, NoSeats, lambda: slips_between(told, stops(text), low, None), "many")
            refused(self, NoSeats, lambda: slips_between(told, stops(SEATS), stops(text), None), "many")
            refused(self, NoSeats, lambda: slips_between(told, low, stops(text), None), "rank")
        for text in LOW:
            refused(self, NoSeats, lambda: slips_between(told, stops(text), (), None), "rank")
            refused(self, NoSeats, lambda: slips_between(told, stops(SEATS), stops(text), None), "rank")
        for slips, index, what in NO_SLIPS:
            refused(self, BadSlips, lambda: slips_between(told, stops(SEATS), stops(SEATS), slips), index, what)

    def test_other_works(self):
        told = work(SKEW)
        some, others = stops("0:1/2 1:1/3 3:1/5"), stops("4:1/2 2:1/3 1:1/5")
        found = slips_between(told, some, others, row("1 1 1"))
        self.assertEqual(slips_of(told, others, seats_shift(told, some, row("1 1 1"))), found)


if __name__ == "__main__":
    unittest.main()
