"""[6.6], [6.7]: what is so for some spots."""

import random
import unittest
from fractions import Fraction
from itertools import permutations

from firmstops.errors import BadPull, BadStretch
from firmstops.firm import is_firm
from firmstops.linear import kernel_of
from firmstops.pulls import is_borne
from firmstops.pushes import rows_of
from firmstops.somespots import NoSpots, Placed, parted, some_bear, some_firm
from firmstops.spotjudges import some_bear_fault, some_firm_fault
from firmstops.stops import check_stops
from firmstops.stretches import end_rows, motion_fate

from helpers import BOX, NO_MOTIONS, SKEW, SQUARE, TRIANGLE
from helpers import are_firm, is_balance, is_free_of, is_new_tuple, is_plain, is_result, lean_solutions, product, rank
from helpers import ratio, refused, refuses_open, refuses_stretches, row, some_stretches, some_works, stops, stretches
from helpers import value, values, weighted, work

GREAT = 10 ** 200 + 3
MIDDLES = stretches("0:1/4:3/4 1:1/4:3/4 2:1/4:3/4 3:1/4:3/4")


def wide_cases():
    for at, told in enumerate(some_works()):
        for many in (4, 5, 6):
            for seed in range(4):
                yield told, some_stretches(told, 320 + 10 * seed + at, many, False, True)
    for text, some in (
        (SQUARE, "0:1/4:3/4 1:1/4:3/4 2:1/4:3/4 3:1/4:3/4"), (BOX, "0:0:1 1:0:1 2:0:1 3:0:1"),
        (BOX, "0:0:1 0:0:1 2:0:1 2:0:1"), (BOX, "0:0:1 2:1/4:1/2 0:0:1 2:0:1 0:1/9:1/8 2:0:1"),
        (BOX, "0:0:1/4 0:3/4:1 2:0:1 1:0:1 3:0:1"), (BOX, "0:0:1/4 1:3/4:1 2:0:1/4 3:3/4:1"),
        (BOX, "0:0:1/2 1:0:1/2 2:0:1/2 3:0:1/2"), (BOX, "0:0:1 0:0:1 0:0:1 0:0:1"), (BOX, "0:0:1 1:0:1 0:0:1 1:0:1"),
        (TRIANGLE, "0:0:1 0:0:1 1:0:1 2:0:1"), (TRIANGLE, "0:1/4:3/8 0:1/4:3/8 1:3/5:4/5 2:2/3:5/6"),
        (SKEW, "0:2/5:3/5 1:2/5:3/5 2:2/5:3/5 3:2/5:3/5 4:2/5:3/5"),
    ):
        yield work(text), stretches(some)


def listed(some):
    return [list(one) for one in some]


class SomeFirm(unittest.TestCase):

    def test_by_hand(self):
        told = work(BOX)
        self.assertIsInstance(some_firm(told, stretches("0:0:1 1:0:1 2:0:1 3:0:1")), Placed)
        self.assertIsInstance(some_firm(told, listed(stretches("0:0:1/4 1:3/4:1 2:0:1/4 3:3/4:1"))), Placed)
        self.assertIsInstance(some_firm(told, listed(stretches("0:0:1/4 1:0:1/4 2:0:1/4 3:0:1/4"))), NoSpots)
        found = some_firm(told, stretches("0:0:1 0:0:1 2:0:1 2:0:1"))
        self.assertIsInstance(found, NoSpots)
        self.assertEqual(motion_fate(told, stretches("0:0:1 0:0:1 2:0:1 2:0:1"), found.motion), "free")
        self.assertIsInstance(some_firm(work(TRIANGLE), stretches("0:0:1 0:0:1 1:0:1 2:0:1")), Placed)
        # Just half of each side, up to the place where all normal lines would meet, and a little more.
        self.assertIsInstance(some_firm(told, stretches("0:0:1/2 1:0:1/2 2:0:1/2 3:0:1/2")), NoSpots)
        self.assertIsInstance(some_firm(told, stretches("0:0:1/2 1:0:1/2 2:0:1/2 3:0:51/100")), Placed)

    def test_lines_that_would_meet_are_parted(self):
        for told, some in ((work(SQUARE), MIDDLES), (work(SQUARE), MIDDLES[1:] + MIDDLES[:1]),
                           (work(SQUARE), MIDDLES[2:3] + MIDDLES[:2] + MIDDLES[3:]), (work(BOX), MIDDLES),
                           (work(SQUARE), MIDDLES + MIDDLES[:2]), (work(SQUARE), MIDDLES[::2] + MIDDLES[1::2])):
            found = some_firm(told, some)
            self.is_right(told, some, found)
            self.assertEqual(rank(rows_of(told, found.stops)), 3)

    def test_parted_where_the_rooms_are_unlike(self):
        some = stretches("0:1/100:99/100 1:49/100:51/100 2:1/100:99/100 3:49/100:51/100")
        for order in permutations(some):
            for told in (work(SQUARE), work(BOX)):
                self.is_right(told, order, some_firm(told, order))

    def test_parted_stops(self):
        # The stops stand at the feet of one place, and the amounts are a balance of their rows of rank 2.
        chance = random.Random(321)
        for text, some, amounts in (
            (BOX, "0:1/4 1:1/4 2:3/4 3:3/4", "1/99 7 1/99 7"), (BOX, "0:7/8 1:1/9 2:1/8 3:8/9", "1/50 1/30 1/50 1/30"),
            (TRIANGLE, "0:1/4 0:1/4 1:3/5 2:2/3", "1/3 2/3 1 1"), (BOX, "0:1/2 1:1/2 2:1/2 3:1/2 0:1/2", "1 1 3 1 2"),
            (BOX, "0:1/4 2:3/4 0:1/4 2:3/4 1:1/4 3:3/4", "1 2 2 1 9 9"),
        ):
            told = work(text)
            orders = list(permutations(list(zip(stops(some), row(amounts)))))
            for order in chance.sample(orders, 24):
                meet, kept = tuple(stop for stop, _ in order), tuple(amount for _, amount in order)
                self.assertEqual(rank(rows_of(told, meet)), 2)
                around = []
                for side, spot in meet:
                    rooms = [Fraction(1, chance.choice((10, 10 ** 6, GREAT))) for _ in range(2)]
                    around.append((side, ratio(value(spot) - rooms[0]), ratio(value(spot) + rooms[1])))
                found = parted(told, around, Placed(meet, kept))
                self.assertEqual(found.amounts, kept)
                self.is_right(told, tuple(around), found)

    def test_results(self):
        seen = {Placed: 0, NoSpots: 0}
        for told, some in wide_cases():
            found = some_firm(told, listed(some))
            self.is_right(told, some, found)
            seen[found.__class__] += 1
        self.assertGreater(min(seen.values()), 20, seen)

    def is_right(self, told, some, found):
        lines = end_rows(told, some)
        self.assertEqual(isinstance(found, Placed), are_firm(lines))
        self.assertIsNone(some_firm_fault(told, some, found))
        if isinstance(found, NoSpots):
            is_new_tuple(self, found.motion)
            self.assertEqual(len(found.motion), 3)
            self.assertTrue(any(values(found.motion)))
            self.assertTrue(is_free_of(lines, values(found.motion)))
            return
        is_new_tuple(self, (found.stops, found.amounts))
        self.assertEqual(check_stops(told, found.stops), found.stops)
        self.assertEqual([stop[0] for stop in found.stops], [stretch[0] for stretch in some])
        for (_, spot), (_, low, high) in zip(found.stops, some):
            self.assertTrue(value(low) < value(spot) < value(high))
        self.assertTrue(is_balance(rows_of(told, found.stops), found.amounts))
        self.assertTrue(is_firm(told, found.stops))

    def test_no_spot_is_firm_where_there_are_none(self):
        chance = random.Random(330)
        tried = 0
        for told, some in wide_cases():
            found = some_firm(told, some)
            if isinstance(found, NoSpots):
                tried += 1
                for _ in range(4):
                    kept = []
                    for side, low, high in some:
                        share = Fraction(chance.randrange(1, 20), 20)
                        kept.append((side, ratio(value(low) + share * (value(high) - value(low)))))
                    self.assertFalse(is_firm(told, kept))
                    self.assertTrue(is_free_of(rows_of(told, kept), values(found.motion)))
        self.assertGreater(tried, 20)

    def test_sides_along_one_direction(self):
        told = work(BOX)
        for text in ("0:0:1 0:0:1 0:0:1 0:0:1", "0:0:1 2:0:1 0:1/4:1/2 2:1/9:1/8 2:0:1 2:0:1", "1:0:1 3:0:1 3:0:1 3:0:1"):
            found = some_firm(told, stretches(text))
            self.assertIsInstance(found, NoSpots)
            self.assertTrue(kernel_of(end_rows(told, stretches(text))))
            self.assertEqual(motion_fate(told, stretches(text), found.motion), "free")

    def test_great_numbers(self):
        told, tiny = work(BOX), Fraction(1, GREAT)
        half = stretches("0:0:1/2 1:0:1/2 2:0:1/2")
        some = half + ((3, ratio(0), ratio(Fraction(1, 2) + tiny)),)
        found = some_firm(told, some)
        self.is_right(told, some, found)
        self.assertIsInstance(found, Placed)

    def test_refuses(self):
        told = work(TRIANGLE)
        refuses_stretches(self, lambda some: some_firm(told, some))
        for text, index, what in (("0:0:1", 0, "few"), ("0:0:1 1:1/2:1/2 2:0:1", 0, "few"),
                                  ("0:0:1 1:0:1 2:1/2:1/2 0:1/3:1/3", 2, "point")):
            refused(self, BadStretch, lambda: some_firm(told, stretches(text)), index, what)

    def test_classes(self):
        is_result(self, Placed, {"stops": [0, "x"], "amounts": {}}, (None, (), "y"))
        is_result(self, NoSpots, {"motion": [ratio(1)]}, (None, (ratio(1),)))
        self.assertFalse(NoSpots(1) == Placed(1, 1))


class SomeBear(unittest.TestCase):

    def test_by_hand(self):
        told, some = work(BOX), stretches("0:1/8:1/4 0:3/4:7/8")
        # The pull goes through (x, 0); it is borne for some spots from x = 1/2 to 7/2.
        for text, kind in (("0 -1 -2", Placed), ("0 -1 -1/2", Placed), ("0 -1 -7/2", Placed), ("0 -1 -4/9", NoSpots),
                           ("0 -1 -18/5", NoSpots), ("0 0 0", Placed), ("0 1 0", NoSpots), ("1 0 0", NoSpots)):
            found = some_bear(told, listed(some), list(row(text)))
            self.assertIsInstance(found, kind, text)
            self.is_right(told, some, row(text), found)

    def test_one_stretch(self):
        told, some = work(BOX), stretches("0:1/4:3/4")
        found = some_bear(told, some, row("0 -1 -2"))
        self.assertEqual(found, Placed(((0, ratio("1/2")),), row("1/4")))
        self.assertIsInstance(some_bear(told, stretches("0:1/4:1/4"), row("0 -1 -1")), Placed)
        self.assertIsInstance(some_bear(told, stretches("0:1/4:1/4"), row("0 -1 -2")), NoSpots)

    def test_results(self):
        chance = random.Random(331)
        seen = {Placed: 0, NoSpots: 0}
        for at, told in enumerate(some_works()):
            for many in range(1, 7):
                some = some_stretches(told, 332 + many + at, many)
                for _ in range(3):
                    pull = row(*[chance.randrange(-3, 4) for _ in range(3)])
                    if chance.randrange(2):
                        lines = end_rows(told, some)
                        shares = [ratio(chance.choice((0, 0, 1, Fraction(2, 3)))) for _ in lines]
                        pull = row(*[-one for one in weighted(lines, shares)])
                    found = some_bear(told, some, pull)
                    self.is_right(told, some, pull, found)
                    seen[found.__class__] += 1
                    if many < 3 and at < 8:
                        aim = row(*[-one for one in values(pull)])
                        borne = len(lean_solutions(end_rows(told, some), aim)) > 0
                        self.assertEqual(isinstance(found, Placed), borne)
        self.assertGreater(min(seen.values()), 30)

    def is_right(self, told, some, pull, found):
        self.assertIsNone(some_bear_fault(told, some, pull, found))
        if isinstance(found, NoSpots):
            is_new_tuple(self, found.motion)
            self.assertTrue(is_plain(found.motion))
            self.assertTrue(is_free_of(end_rows(told, some), values(found.motion)))
            self.assertGreater(product(found.motion, pull), 0)
            return
        is_new_tuple(self, (found.stops, found.amounts))
        self.assertEqual(len(found.stops), len(some))
        for (side, spot), (other, low, high) in zip(found.stops, some):
            self.assertEqual(side, other)
            self.assertTrue(value(low) <= value(spot) <= value(high))
        self.assertTrue(all(one >= 0 for one in values(found.amounts)))
        lines = rows_of(told, found.stops)
        self.assertEqual([-one for one in weighted(lines, found.amounts)], list(values(pull)))
        self.assertTrue(is_borne(told, found.stops, pull))

    def test_refuses(self):
        told = work(TRIANGLE)
        refuses_open(self, lambda some: some_bear(told, some, None))
        for thing in NO_MOTIONS:
            refused(self, BadPull, lambda: some_bear(told, stretches("0:1/4:1/2"), thing))


if __name__ == "__main__":
    unittest.main()
