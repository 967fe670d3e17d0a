"""[6.1], [6.2], [6.3]: stretches, their ends and choices, and the fates of motions."""

import random
import unittest
from fractions import Fraction
from itertools import product as products

from firmstops.barring import rate_at
from firmstops.errors import BadChoice, BadMotion, BadStretch
from firmstops.pushes import row_on
from firmstops.stretches import check_closed, check_stretches, check_wide, choices_of, end_rows, end_stops
from firmstops.stretches import motion_fate, spots_let

from helpers import BOX, NO_MOTIONS, NO_RATIOS, NO_SEQUENCES, TRIANGLE
from helpers import is_new_tuple, product, ratio, refused, refuses_open, refuses_stretches, row, rows, some_stretches
from helpers import some_works, stops, stretches, value, work

GREAT = 10 ** 290 + 9
MOTIONS = rows("0 0 0", "1 0 0", "0 1 0", "-2 3 0", "0 0 1", "0 0 -1", "1 -2 1", "-1 2 -1", "1/2 -7/3 3/5", "0 -1 1/2")


class Checks(unittest.TestCase):

    def test_stretches(self):
        told = work(TRIANGLE)
        for text in ("0:0:1", "0:1/4:1/4", "2:0:1/100", "1:99/100:1", "0:0:1 0:0:1 0:1/2:1/2", "0:0:1/2 " * 6):
            some = stretches(text)
            found = check_stretches(told, [list(one) for one in some])
            self.assertEqual(found, some)
            is_new_tuple(self, found)
            self.assertEqual(check_stretches(told, some), some)
        tiny = Fraction(1, GREAT)
        some = ((0, ratio(0), ratio(tiny)), (1, ratio(1 - tiny), ratio(1)), (2, ratio(tiny), ratio(1 - tiny)))
        self.assertEqual(check_stretches(told, some), some)

    def test_refuses(self):
        told = work(TRIANGLE)
        for ask in (check_stretches, end_rows, check_closed, check_wide):
            refuses_stretches(self, lambda some: ask(told, some))
        refuses_stretches(self, lambda some: motion_fate(told, some, None), lambda some: end_stops(told, some, None))
        for thing in NO_RATIOS:
            refused(self, BadStretch, lambda: check_stretches(told, [(0, thing, ratio(1))]), 0, "low")
            refused(self, BadStretch, lambda: check_stretches(told, [(0, ratio(0), thing)]), 0, "high")
        for thing in NO_SEQUENCES:
            refused(self, BadStretch, lambda: check_stretches(told, thing), 0, "many")
            refused(self, BadStretch, lambda: check_stretches(told, [thing]), 0, "stretch")
        for thing in (-1, 3, True, False, None, 1.0, "0", (0, 1)):
            refused(self, BadStretch, lambda: check_stretches(told, [(thing, ratio(0), ratio(1))]), 0, "side")

    def test_closed(self):
        told = work(TRIANGLE)
        refuses_open(self, lambda some: check_closed(told, some))
        for text in ("0:1/4:1/4", "0:1/9:8/9 0:1/9:8/9 2:1/100:99/100"):
            self.assertEqual(check_closed(told, [list(one) for one in stretches(text)]), stretches(text))
            is_new_tuple(self, check_closed(told, stretches(text)))

    def test_wide(self):
        told = work(TRIANGLE)
        for text in ("0:0:1", "0:0:1 1:0:1 2:0:1", "0:1/2:1/2"):
            refused(self, BadStretch, lambda: check_wide(told, stretches(text)), 0, "few")
        for text, index in (("0:1/2:1/2 1:0:1 2:0:1 0:0:1", 0), ("0:0:1 1:0:1 2:0:1 0:1/2:1/2 0:1/3:1/3", 3),
                            ("0:0:1 1:0:1 2:0:1 0:0:1 0:0:1 0:1/3:1/3", 5)):
            refused(self, BadStretch, lambda: check_wide(told, stretches(text)), index, "point")
        for text in ("0:0:1 " * 4, "0:0:1 1:1/9:1 2:0:1/3 0:0:1 0:0:1", "0:0:1 " * 6):
            self.assertEqual(check_wide(told, [list(one) for one in stretches(text)]), stretches(text))
            is_new_tuple(self, check_wide(told, stretches(text)))


class Ends(unittest.TestCase):

    def test_choices(self):
        self.assertEqual(list(choices_of(stretches("0:0:1"))), [(0,), (1,)])
        self.assertEqual(list(choices_of(list(stretches("0:0:1 1:0:1")))), [(0, 0), (0, 1), (1, 0), (1, 1)])
        for many in range(1, 7):
            for thing in ([None] * many, stretches("0:1/2:1/2 " * many)):
                self.assertEqual(list(choices_of(thing)), list(products((0, 1), repeat=many)))

    def test_end_stops(self):
        told = work(BOX)
        some = stretches("0:1/4:1/2 2:1/3:1/3 0:1/8:7/8")
        for choice, text in (((0, 0, 0), "0:1/4 2:1/3 0:1/8"), ([0, 0, 1], "0:1/4 2:1/3 0:7/8"),
                             ((1, 1, 0), "0:1/2 2:1/3 0:1/8")):
            found = end_stops(told, [list(one) for one in some], choice)
            self.assertEqual(found, stops(text))
            is_new_tuple(self, found)

    def test_end_stops_refuses(self):
        told, some = work(TRIANGLE), stretches("0:1/4:1/2 1:1/3:1/3")
        refuses_open(self, lambda one: end_stops(told, one, None))
        for thing in NO_SEQUENCES + ((), (0,), (0, 0, 0), (0, 2), (-1, 0), (True, 0), (0, False), (0, None), ("0", "1"),
                                     (0, 1.0), [(0, 1), 0], "01", {0, 1}):
            refused(self, BadChoice, lambda: end_stops(told, some, thing))

    def test_end_rows(self):
        told = work(BOX)
        found = end_rows(told, [list(one) for one in stretches("0:0:1/4 1:1/2:1")])
        self.assertEqual(found, rows("0 4 0", "0 4 4", "-2 0 2", "-2 0 4"))
        is_new_tuple(self, found)
        for told in some_works():
            some = some_stretches(told, 260, 6, False)
            found = end_rows(told, some)
            self.assertEqual(found, tuple(row_on(told, one[0], end) for one in some for end in one[1:]))


class Fates(unittest.TestCase):

    def test_spots_by_hand(self):
        told = work(BOX)
        # About (2, 1) to the left, a stop of side 0 is left from spot 1/2 on.
        left, right = row("1 -2 1"), row("-1 2 -1")
        for text, motion, expected in (
            ("0:0:1", left, "1/2 1"), ("0:0:1", right, "0 1/2"), ("0:1/4:3/4", left, "1/2 3/4"),
            ("0:1/4:3/4", right, "1/4 1/2"), ("0:1/2:3/4", left, "1/2 3/4"), ("0:1/2:3/4", right, "1/2 1/2"),
            ("0:1/4:1/2", left, "1/2 1/2"), ("0:1/4:1/3", left, None), ("0:2/3:3/4", right, None),
            ("0:1/2:1/2", left, "1/2 1/2"), ("0:1/4:1/4", right, "1/4 1/4"), ("0:1/4:1/4", left, None),
            ("0:0:1", row("1 0 0"), "0 1"), ("0:0:1", row("0 1 0"), "0 1"), ("0:0:1", row("0 -1 0"), None),
            ("2:1/9:1/3", row("0 0 0"), "1/9 1/3"),
        ):
            found = spots_let(told, list(stretches(text)[0]), list(motion))
            self.assertEqual(found, None if expected is None else row(expected), (text, motion))

    def test_spots(self):
        chance = random.Random(261)
        seen = {}
        for told in some_works():
            for stretch in some_stretches(told, 262, 8, False):
                for motion in MOTIONS:
                    found = spots_let(told, stretch, motion)
                    low, high = value(stretch[1]), value(stretch[2])
                    tries = [low, high] + [low + (high - low) * Fraction(chance.randrange(101), 100) for _ in range(4)]
                    if found is not None:
                        is_new_tuple(self, found)
                        first, last = value(found[0]), value(found[1])
                        self.assertTrue(low <= first <= last <= high)
                        tiny = Fraction(1, 10 ** 400)
                        tries += [first, last, first - tiny, last + tiny]
                    seen[found is None] = seen.get(found is None, 0) + 1
                    for spot in tries:
                        if low <= spot <= high:
                            let = product(row_on(told, stretch[0], ratio(spot)), motion) >= 0
                            self.assertEqual(let, found is not None and first <= spot <= last)
        self.assertGreater(min(seen.values()), 30)

    def test_rates_go_straight(self):
        told = work(BOX)
        for side in range(4):
            u, v, w = (value(one) for one in row("3 -1/2 7/5"))
            begin = product(row_on(told, side, ratio(0)), row("3 -1/2 7/5"))
            square = product(told.side_of(side), told.side_of(side))
            rate = rate_at(told, (side, ratio("2/7")), row("3 -1/2 7/5"))
            self.assertEqual(value(rate), begin + Fraction(2, 7) * w * square, (u, v))

    def test_fates_by_hand(self):
        told = work(BOX)
        left = row("1 -2 1")
        for text, motion, expected in (
            ("0:1/2:1", left, "free"), ("0:1/4:1/2", left, "depends"), ("0:0:1/4", left, "barred"),
            ("0:1/2:1/2", left, "free"), ("0:1/4:1/4", left, "barred"), ("0:1/4:1/2 0:0:1/4", left, "barred"),
            ("0:0:1/4 0:1/4:1/2", left, "barred"), ("0:1/4:1/2 0:1/2:1", left, "depends"),
            ("0:0:1 2:0:1", row("0 0 0"), "free"), ("0:0:1 2:0:1", row("0 1 0"), "barred"),
            ("0:0:1 2:0:1", row("1 0 0"), "free"), ("0:0:1 1:0:1", row("-1 0 0"), "free"),
            ("0:0:1 1:0:1", row("1 0 0"), "barred"), ("0:1/4:3/4 2:1/4:3/4", left, "depends"),
        ):
            self.assertEqual(motion_fate(told, [list(one) for one in stretches(text)], list(motion)), expected, text)

    def test_fates(self):
        seen = {}
        chance = random.Random(263)
        for told in some_works():
            for seed in range(6):
                some = some_stretches(told, 264 + seed, chance.randrange(1, 7), False)
                for motion in MOTIONS:
                    fate = motion_fate(told, some, motion)
                    lets = [spots_let(told, stretch, motion) for stretch in some]
                    whole = all(let == stretch[1:] for let, stretch in zip(lets, some))
                    self.assertEqual(fate, "barred" if None in lets else ("free" if whole else "depends"))
                    seen[fate] = seen.get(fate, 0) + 1
        self.assertEqual(set(seen), {"free", "barred", "depends"})

    def test_refuses(self):
        told, some = work(TRIANGLE), stretches("0:0:1")
        for thing, what in ((None, "stretch"), ((0, ratio(0)), "stretch"), ((3, None, None), "side"),
                            ((0, ratio(1), ratio(1)), "low"), ((0, ratio("1/2"), ratio("1/3")), "high")):
            refused(self, BadStretch, lambda: spots_let(told, thing, None), 0, what)
        for motion in NO_MOTIONS:
            refused(self, BadMotion, lambda: spots_let(told, some[0], motion))
            refused(self, BadMotion, lambda: motion_fate(told, some, motion))

    def test_great_numbers(self):
        told, tiny = work(BOX), Fraction(1, GREAT)
        stretch = (0, ratio(Fraction(1, 2) - tiny), ratio(Fraction(1, 2) + tiny))
        self.assertEqual(spots_let(told, stretch, row("1 -2 1")), (ratio("1/2"), stretch[2]))
        self.assertEqual(motion_fate(told, [stretch], row("1 -2 1")), "depends")
        self.assertEqual(motion_fate(told, [stretch], row(GREAT, 5, GREAT * GREAT)), "free")


if __name__ == "__main__":
    unittest.main()
