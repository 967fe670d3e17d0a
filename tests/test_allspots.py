"""[6.4], [6.5]: what is so for all spots."""

import random
import unittest
from fractions import Fraction
from itertools import product as products

from firmstops.allspots import Ends, LooseEnds, all_bear, all_firm, all_held, loose_choices
from firmstops.errors import BadPull
from firmstops.firm import is_firm
from firmstops.held import Held, Slide, Turn, held_or_loose, is_held
from firmstops.pulls import is_borne
from firmstops.pushes import rows_of
from firmstops.spotjudges import all_bear_fault, all_firm_fault
from firmstops.stretches import end_stops

from helpers import BOX, NO_MOTIONS, SKEW, TRIANGLE
from helpers import are_firm, around_stops, is_free_of, is_new_tuple, is_result, product, ratio, refused
from helpers import refuses_open, row, spot_cases, stops, stretches, value, values, weighted, work

GREAT = 10 ** 200 + 3
FIRM = stops("0:1/2 1:1/2 2:1/4 3:3/4")
TWO = stretches("0:1/8:1/4 0:3/4:7/8")


def choices(many):
    return list(products((0, 1), repeat=many))


def chosen(some, choice):
    return tuple((stretch[0], stretch[1 + end]) for stretch, end in zip(some, choice))


def stops_within(chance, some):
    """Stops anywhere within stretches."""
    found = []
    for side, low, high in some:
        share = Fraction(chance.randrange(11), 10)
        found.append((side, ratio(value(low) + share * (value(high) - value(low)))))
    return tuple(found)


def listed(some):
    return [list(one) for one in some]


class AllFirm(unittest.TestCase):

    def test_by_hand(self):
        told = work(BOX)
        self.assertIsNone(all_firm(told, stretches("0:1/2:1/2 1:1/2:1/2 2:1/4:1/4 3:3/4:3/4")))
        self.assertIsNone(all_firm(told, stretches("0:2/5:3/5 1:1/2:1/2 2:1/5:3/10 3:7/10:4/5")))
        found = all_firm(told, stretches("0:1/2:1/2 1:1/2:1/2 2:1/4:1/2 3:3/4:3/4"))
        self.assertEqual(found.choice, (0, 0, 1, 0))
        found = all_firm(told, stretches("0:1/2:1/2 1:1/2:1/2 2:1/4:1/2 3:1/2:3/4"))
        self.assertEqual(found.choice, (0, 0, 0, 0))
        self.assertEqual(all_firm(told, stretches("0:1/4:1/2")).choice, (0,))

    def test_the_first_choice_and_a_free_motion(self):
        seen = {}
        for told, some in spot_cases():
            found = all_firm(told, listed(some))
            loose = [one for one in choices(len(some)) if not are_firm(rows_of(told, chosen(some, one)))]
            seen[len(loose)] = seen.get(len(loose), 0) + 1
            self.assertIsNone(all_firm_fault(told, some, found))
            if not loose:
                self.assertIsNone(found)
                continue
            self.assertIsInstance(found, Ends)
            is_new_tuple(self, (found.choice, found.motion))
            self.assertEqual(found.choice, loose[0])
            self.assertTrue(any(values(found.motion)))
            lines = rows_of(told, end_stops(told, some, found.choice))
            self.assertTrue(is_free_of(lines, values(found.motion)))
        self.assertGreater(seen[0], 8)
        self.assertGreater(len(seen), 5)

    def test_for_all_spots(self):
        chance = random.Random(310)
        for told, some in spot_cases():
            if all_firm(told, some) is None:
                for _ in range(8):
                    self.assertTrue(is_firm(told, stops_within(chance, some)))

    def test_loose_choices(self):
        many = set()
        for told, some in spot_cases():
            found = list(loose_choices(told, listed(some)))
            self.assertEqual(found, [one for one in choices(len(some)) if not is_firm(told, chosen(some, one))])
            many.add(len(found))
            for choice in found:
                is_new_tuple(self, choice)
        self.assertTrue({0, 2} <= many, many)
        self.assertGreater(len(many), 6)

    def test_many_stretches(self):
        told = work(BOX)
        six = stretches("0:2/5:3/5 1:1/2:1/2 2:1/5:3/10 3:7/10:4/5 0:2/5:3/5 0:2/5:3/5")
        self.assertIsNone(all_firm(told, six))
        self.assertEqual(list(loose_choices(told, six)), [])
        one = stretches("2:1/4:1/2")
        self.assertEqual(list(loose_choices(told, one)), [(0,), (1,)])

    def test_great_numbers(self):
        told, tiny = work(BOX), Fraction(1, GREAT)
        meet = stops("0:1/2 1:1/2 2:1/2")
        for low, fits in ((Fraction(1, 2) + tiny, True), (Fraction(1, 2), False), (Fraction(1, 2) - tiny, False)):
            some = around_stops(meet, 0) + ((3, ratio(low), ratio("3/4")), (3, ratio("1/4"), ratio("1/3")))
            self.assertEqual(all_firm(told, some) is None, fits)

    def test_classes(self):
        is_result(self, Ends, {"choice": [0, 1], "motion": "x"}, (None, (0, 1), row("1 0 0")))
        is_result(self, LooseEnds, {"choice": [0, 1], "loose": Slide(row("1 0"))}, (None, (0, 1), Slide(row("0 1"))))
        self.assertEqual(LooseEnds((0,), Slide(row("1 0"))), LooseEnds((0,), Slide(row("1 0"))))
        self.assertFalse(Ends((0,), 1) == LooseEnds((0,), 1))
        self.assertFalse(LooseEnds((0,), 1) == Ends((0,), 1))


class AllHeld(unittest.TestCase):

    def test_by_hand(self):
        told = work(TRIANGLE)
        self.assertIsNone(all_held(told, stretches("0:1/4:1/4 1:3/5:3/5 2:2/3:2/3")))
        found = all_held(told, stretches("0:1/4:1/2 1:3/5:3/5 2:2/3:2/3"))
        self.assertEqual(found, LooseEnds((1, 0, 0), Turn(row("5/3 13/9"), "left", ratio("3/13"))))
        found = all_held(told, listed(stretches("0:1/4:1/2 1:3/5:3/5")))
        self.assertEqual(found.choice, (0, 0))
        self.assertIsInstance(found.loose, Slide)

    def test_the_first_choice(self):
        chance = random.Random(311)
        seen = {None: 0, Slide: 0, Turn: 0}
        for told, some in spot_cases():
            found = all_held(told, listed(some))
            loose = [one for one in choices(len(some)) if not is_held(told, chosen(some, one))]
            if not loose:
                self.assertIsNone(found)
                seen[None] += 1
                for _ in range(4):
                    self.assertIsInstance(held_or_loose(told, stops_within(chance, some)), Held)
                continue
            self.assertIsInstance(found, LooseEnds)
            self.assertEqual(found.choice, loose[0])
            is_new_tuple(self, found.choice)
            self.assertEqual(found.loose, held_or_loose(told, chosen(some, loose[0])))
            seen[found.loose.__class__] += 1
        self.assertGreater(min(seen.values()), 8, seen)


class AllBear(unittest.TestCase):

    def test_by_hand(self):
        told = work(BOX)
        self.assertIsNone(all_bear(told, TWO, row("0 -1 -2")))
        self.assertIsNone(all_bear(told, listed(TWO), list(row("0 -1 -1"))))
        self.assertEqual(all_bear(told, TWO, row("0 -1 -3/4")).choice, (1, 0))
        self.assertEqual(all_bear(told, TWO, row("0 -1 -13/4")).choice, (0, 0))
        self.assertEqual(all_bear(told, TWO, row("0 1 0")).choice, (0, 0))
        self.assertIsNone(all_bear(told, TWO, row("0 0 0")))

    def test_the_first_choice(self):
        chance = random.Random(312)
        seen = {}
        for told, some in spot_cases():
            for _ in range(2):
                pull = row(*[chance.randrange(-2, 3) for _ in range(3)])
                if chance.randrange(2):
                    lines = rows_of(told, stops_within(chance, some))
                    pull = row(*[-one for one in weighted(lines, [ratio(1)] * len(lines))])
                found = all_bear(told, some, pull)
                bad = [one for one in choices(len(some)) if not is_borne(told, chosen(some, one), pull)]
                seen[len(bad)] = seen.get(len(bad), 0) + 1
                self.assertIsNone(all_bear_fault(told, some, pull, found))
                if not bad:
                    self.assertIsNone(found)
                    self.assertTrue(is_borne(told, stops_within(chance, some), pull))
                    continue
                self.assertEqual(found.choice, bad[0])
                is_new_tuple(self, (found.choice, found.motion))
                lines = rows_of(told, chosen(some, bad[0]))
                self.assertTrue(is_free_of(lines, values(found.motion)))
                self.assertGreater(product(found.motion, pull), 0)
        self.assertGreater(seen[0], 5)
        self.assertGreater(len(seen), 4)


class Refusals(unittest.TestCase):

    def test_stretches_come_first(self):
        told = work(TRIANGLE)
        refuses_open(self, lambda some: all_firm(told, some), lambda some: all_held(told, some),
                     lambda some: list(loose_choices(told, some)), lambda some: all_bear(told, some, None))

    def test_pulls(self):
        for thing in NO_MOTIONS:
            refused(self, BadPull, lambda: all_bear(work(SKEW), TWO, thing))

    def test_what_is_passed_stays(self):
        some = listed(stretches("0:2/5:3/5 1:1/2:1/2 2:1/5:3/10 3:7/10:4/5"))
        kept = listed(some)
        self.assertIsNone(all_firm(work(BOX), some))
        self.assertIsNone(all_held(work(BOX), some))
        self.assertEqual(some, kept)


if __name__ == "__main__":
    unittest.main()
