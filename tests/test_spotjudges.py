"""[6.8] with [0.9]: the judges of what is said about all spots and about some spots."""

import unittest
from fractions import Fraction

from firmstops.allspots import Ends, all_bear, all_firm
from firmstops.pulls import NO_PULL
from firmstops.somespots import NoSpots, Placed, some_bear, some_firm
from firmstops.spotjudges import all_bear_fault, all_firm_fault, some_bear_fault, some_firm_fault

from helpers import BOX, NO_MOTIONS, NO_RATIOS, NO_SEQUENCES
from helpers import no_numbers, ratio, row, spot_cases, stops, stretches, values, work

GREAT = 10 ** 290 + 3
FIRM = stretches("0:2/5:3/5 1:1/2:1/2 2:1/5:3/10 3:7/10:4/5")
LOOSE = stretches("0:1/2:1/2 1:1/2:1/2 2:1/4:1/2 3:3/4:3/4")
PAIR = stretches("0:1/8:1/4 0:3/4:7/8")
WIDE = stretches("0:1/4:3/4 1:1/4:3/4 2:1/4:3/4 3:1/4:3/4")
HALVES = stretches("0:0:1/2 1:0:1/2 2:0:1/2 3:0:1/2")
DOWN = row("0 -1 -2")
NO_CHOICES = NO_SEQUENCES + ((), (0,), (0, 0, 0, 0, 0), (0, 0, 0, 2), (0, 0, 0, -1), (True, 0, 0, 0), [0, 0, False, 0],
                             (0, 0, None, 0), "0000", (0, 0, 0, 1.0))


class AllFirmFault(unittest.TestCase):

    def word(self, expected, result, some=LOOSE):
        self.assertEqual(all_firm_fault(work(BOX), some, result), expected)

    def test_none(self):
        self.word(None, None, FIRM)
        self.word("choice", None, LOOSE)
        self.word("choice", None, stretches("0:1/4:1/2"))

    def test_right_ends(self):
        # About (2, 1), where all normal lines of the choice meet, both turns are free.
        for motion in (row("1 -2 1"), list(row("-1 2 -1")), row("1/2 -1 1/2"), row(GREAT, -2 * GREAT, GREAT)):
            self.word(None, Ends([0, 0, 1, 0], motion), self.meeting())
        for told, some in spot_cases():
            found = all_firm(told, some)
            self.assertIsNone(all_firm_fault(told, some, found))
            if found is not None:
                listed = Ends(list(found.choice), list(found.motion))
                self.assertIsNone(all_firm_fault(told, [list(one) for one in some], listed))

    def meeting(self):
        return stretches("0:1/2:1/2 1:1/2:1/2 2:1/4:1/2 3:1/2:3/4")

    def test_the_first_choice_is_not_asked(self):
        some = stretches("0:1/2:1/2 1:1/2:1/2 2:1/2:1/2 3:1/2:1/2")
        for choice in ((0, 0, 0, 0), (1, 1, 1, 1), (0, 1, 0, 1)):
            self.word(None, Ends(choice, row("1 -2 1")), some)

    def test_choice(self):
        for choice in NO_CHOICES:
            self.word("choice", Ends(choice, row("1 -2 1")))
            self.word("choice", Ends(choice, None))

    def test_motion(self):
        for motion in NO_MOTIONS:
            self.word("motion", Ends((0, 0, 1, 0), motion))

    def test_rest(self):
        for motion in (row("0 0 0"), list(row("0 0 0"))):
            self.word("rest", Ends((0, 0, 1, 0), motion))
            self.word("rest", Ends((0, 0, 0, 0), motion), FIRM)

    def test_barred(self):
        for motion in (row("1 0 0"), row("0 -1 0"), row("1 -2 2"), row(GREAT, -2 * GREAT, GREAT + 1)):
            self.word("barred", Ends((0, 0, 1, 0), motion), self.meeting())
        # Another choice than the one at which it is free.
        self.word("barred", Ends((0, 0, 0, 1), row("1 -2 1")), self.meeting())
        self.word("barred", Ends((0, 0, 0, 1), row("-1 2 -1")), self.meeting())
        self.word("barred", Ends((0, 0, 0, 0), row("1 -2 1")), FIRM)


class AllBearFault(unittest.TestCase):

    def word(self, expected, result, pull=row("0 -1 -3/4"), some=PAIR):
        self.assertEqual(all_bear_fault(work(BOX), some, pull, result), expected)

    def test_none(self):
        self.word(None, None, DOWN)
        self.word(None, None, NO_PULL)
        self.word("choice", None)
        self.word("choice", None, row("1 0 0"))

    def test_right_ends(self):
        # Stops at (1, 0) and (3, 0): the pull goes through (3/4, 0), outside of both.
        for motion in (row("0 -1 1"), list(row("0 -1/2 1/2")), row(GREAT, -3, 3)):
            self.word(None, Ends((1, 0), motion))
            self.word(None, Ends([1, 0], motion))
        for told, some in spot_cases():
            for pull in (DOWN, row("1 0 2"), NO_PULL):
                found = all_bear(told, some, pull)
                self.assertIsNone(all_bear_fault(told, some, pull, found))
                if found is not None:
                    listed = Ends(list(found.choice), list(found.motion))
                    self.assertIsNone(all_bear_fault(told, [list(one) for one in some], list(pull), listed))

    def test_choice(self):
        for choice in NO_SEQUENCES + ((), (0,), (0, 0, 0), (0, 2), (True, 0), (0, None), "01"):
            self.word("choice", Ends(choice, row("0 -1 1")))
            self.word("choice", Ends(choice, None))

    def test_motion(self):
        for motion in NO_MOTIONS:
            self.word("motion", Ends((1, 0), motion))

    def test_barred(self):
        for motion in (row("0 -1 0"), row("0 -2 1"), row("0 3 -2"), row(0, -GREAT - 1, GREAT)):
            self.word("barred", Ends((1, 0), motion))
        self.word("barred", Ends((0, 0), row("0 -1 1")))
        self.word("barred", Ends((0, 1), row("0 -1 1")))

    def test_product(self):
        for motion in (row("0 0 0"), row("0 1 0"), row("0 3 -1"), row("1 0 0"), row("0 -3/4 1")):
            self.word("product", Ends((1, 0), motion))
        self.word("product", Ends((1, 0), row("0 -1 1")), row("0 -1 -1"))
        self.word(None, Ends((1, 0), row("0 -1 1")), row(0, -1, -1 + Fraction(1, GREAT)))


class SomeFirmFault(unittest.TestCase):

    RIGHT = stops("0:1/2 1:1/2 2:3/8 3:5/8")

    def word(self, expected, result, some=WIDE):
        self.assertEqual(some_firm_fault(work(BOX), some, result), expected)

    def right(self):
        return some_firm(work(BOX), WIDE)

    def test_right_results(self):
        for some in (WIDE, HALVES, stretches("0:0:1 1:0:1 2:0:1 3:0:1 0:1/9:1/8")):
            told = some_firm(work(BOX), some)
            self.word(None, told, some)
            if isinstance(told, Placed):
                listed = Placed([list(one) for one in told.stops], [ratio(7 * one) for one in values(told.amounts)])
                self.word(None, listed, [list(one) for one in some])
        for motion in (row("-1 2 -1"), list(row("-1/2 1 -1/2"))):
            self.word(None, NoSpots(motion), HALVES)

    def test_stops(self):
        told = self.right()
        for thing in NO_SEQUENCES + ((), told.stops[:3], told.stops + told.stops[:1]):
            self.word("stops", Placed(thing, told.amounts))
            self.word("stops", Placed(thing, None))
        for at in range(4):
            side, spot = told.stops[at]
            wrong = [(side, spot, spot), (side,), None, side, "ab", (side + 1, spot), (side - 1, spot), (None, spot),
                     (str(side), spot), (float(side), spot), (side == 1, spot), {side, spot}]
            for thing in wrong + [(side, number) for number in NO_RATIOS]:
                self.word("stops", Placed(told.stops[:at] + (thing,) + told.stops[at + 1:], told.amounts))
        # The word of all stops comes before the next word of any.
        self.word("stops", Placed(((0, ratio(5)),) + told.stops[1:3] + (None,), told.amounts))

    def test_spot(self):
        told, tiny = self.right(), Fraction(1, GREAT)
        for at in range(4):
            for spot in (Fraction(1, 4), Fraction(3, 4), Fraction(1, 4) - tiny, Fraction(3, 4) + tiny, 0, 1, -3, 7):
                kept = told.stops[:at] + ((told.stops[at][0], ratio(spot)),) + told.stops[at + 1:]
                self.word("spot", Placed(kept, told.amounts))
                self.word("spot", Placed(kept, None))

    def test_amounts(self):
        told = self.right()
        for amounts in no_numbers(4) + [row("1 1 1 0"), row("0 0 0 0"), row("1 -1 1 1")]:
            self.word("amounts", Placed(told.stops, amounts))

    def test_sum(self):
        told = self.right()
        for at in range(4):
            more = [one + (k == at) * Fraction(1, GREAT) for k, one in enumerate(values(told.amounts))]
            self.word("sum", Placed(told.stops, row(*more)))
        moved = ((0, ratio(Fraction(1, 2) + Fraction(1, GREAT))),) + stops("1:1/2 2:1/2 3:1/2")
        self.word("sum", Placed(moved, row("1 1 1 1")))

    def test_rank(self):
        self.word("rank", Placed(stops("0:1/2 1:1/2 2:1/2 3:1/2"), row("1 1 1 1")))
        self.word("rank", Placed(stops("0:1/2 1:1/2 2:1/2 3:1/2"), list(row("2 3 2 3"))))
        self.word("sum", Placed(stops("0:1/2 1:1/2 2:1/2 3:1/2"), row("1 1 1 2")))

    def test_no_spots(self):
        for motion in NO_MOTIONS:
            self.word("motion", NoSpots(motion))
            self.word("motion", NoSpots(motion), HALVES)
        self.word("rest", NoSpots(row("0 0 0")))
        self.word("rest", NoSpots(list(row("0 0 0"))), HALVES)
        for motion in (row("1 -2 1"), row("1 0 0"), row("0 1 -1/2"), row(-GREAT, 2 * GREAT, -GREAT - 1)):
            self.word("barred", NoSpots(motion), HALVES)
        self.word("barred", NoSpots(row("-1 2 -1")))
        # Each end row is asked, the high ends too.
        self.word("barred", NoSpots(row("-1 2 -1")), HALVES[:3] + stretches("3:0:51/100"))
        self.word("barred", NoSpots(row("1 0 0")), stretches("0:0:1 1:0:1 2:0:1 3:0:1"))


class SomeBearFault(unittest.TestCase):

    def word(self, expected, result, pull=DOWN, some=PAIR):
        self.assertEqual(some_bear_fault(work(BOX), some, pull, result), expected)

    def test_right_results(self):
        for stops_text, amounts in (("0:1/4 0:3/4", "1/8 1/8"), ("0:1/8 0:7/8", "1/8 1/8"), ("0:1/4 0:7/8", "3/20 1/10")):
            self.word(None, Placed(stops(stops_text), row(amounts)))
            self.word(None, Placed([list(one) for one in stops(stops_text)], list(row(amounts))))
        self.word(None, Placed(stops("0:1/4 0:3/4"), row("0 0")), NO_PULL)
        self.word(None, NoSpots(row("0 -1 2")), row("0 -1 -1/4"))
        self.word(None, NoSpots(list(row("0 -1 2"))), list(row("0 -1 -1/4")), [list(one) for one in PAIR])
        for told, some in spot_cases():
            for pull in (DOWN, row("1 0 2")):
                self.assertIsNone(some_bear_fault(told, some, pull, some_bear(told, some, pull)))

    def test_stops(self):
        for thing in NO_SEQUENCES + ((), stops("0:1/4"), stops("0:1/4 0:3/4 0:3/4"), stops("0:1/4 1:3/4"),
                                     stops("2:1/4 0:3/4"), ((0, None), (0, ratio("3/4"))), (None, (0, ratio("3/4"))),
                                     ((False, ratio("1/4")), (0, ratio("3/4"))), ((0, ratio("1/4")), (0, 1))):
            self.word("stops", Placed(thing, row("1/8 1/8")))
            self.word("stops", Placed(thing, None))

    def test_spot(self):
        tiny = Fraction(1, GREAT)
        for low, high in ((Fraction(1, 8) - tiny, Fraction(3, 4)), (Fraction(1, 4) + tiny, Fraction(3, 4)),
                          (Fraction(1, 4), Fraction(3, 4) - tiny), (Fraction(1, 4), Fraction(7, 8) + tiny), (0, 1), (1, 0)):
            self.word("spot", Placed(((0, ratio(low)), (0, ratio(high))), row("1/8 1/8")))
            self.word("spot", Placed(((0, ratio(low)), (0, ratio(high))), None))

    def test_amounts(self):
        for amounts in no_numbers(2) + [row("-1 1"), row(1, Fraction(-1, GREAT))]:
            self.word("amounts", Placed(stops("0:1/4 0:3/4"), amounts))
        self.word("amounts", Placed(stops("0:1/4 0:3/4"), row("-1/8 3/8")), row("0 -1 -4"))

    def test_sum(self):
        for amounts in (row("1/8 1/4"), row("0 0"), row(Fraction(1, 8), Fraction(1, 8) + Fraction(1, GREAT))):
            self.word("sum", Placed(stops("0:1/4 0:3/4"), amounts))
        self.word("sum", Placed(stops("0:1/8 0:3/4"), row("1/8 1/8")))
        self.word("sum", Placed(stops("0:1/4 0:3/4"), row("1/8 1/8")), row("0 1 2"))
        self.word("sum", Placed(stops("0:1/4 0:3/4"), row("1/8 1/8")), NO_PULL)

    def test_no_spots(self):
        for motion in NO_MOTIONS:
            self.word("motion", NoSpots(motion))
        for motion in (row("0 -1 1"), row("0 -1 0"), row("0 3 -1"), row(0, -GREAT - 1, 2 * GREAT)):
            self.word("barred", NoSpots(motion), row("0 -1 -1/4"))
        self.word("barred", NoSpots(row("0 -1 1")))
        for motion in (row("0 0 0"), row("0 -1 2"), row("1 0 0"), row("0 1 0")):
            self.word("product", NoSpots(motion))
        self.word("product", NoSpots(row("0 -1 2")), row("0 -1 -1/2"))
        self.word(None, NoSpots(row("0 -1 2")), row(0, -1, Fraction(-1, 2) + Fraction(1, GREAT)))


if __name__ == "__main__":
    unittest.main()
