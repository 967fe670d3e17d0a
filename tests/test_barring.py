"""[2.6], [2.7]: rates, what bars and what is grazed, and the free share between two motions."""

import random
import unittest
from fractions import Fraction

from firmstops.barring import barring_stops, first_bar, free_share, grazed_stops, is_free, left_stops, rate_at
from firmstops.barring import rates_of, stop_sign
from firmstops.errors import BadMotion, BadStop
from firmstops.motions import grown_motion, mirrored_motion, motions_sum, scaled_motion, shifted_motion, turned_motion
from firmstops.motions import velocity_at
from firmstops.places import dot_of
from firmstops.pushes import row_of
from firmstops.stops import begun_stops, mirrored_stops

from helpers import BOX, NO_MOTIONS, SKEW, TRIANGLE
from helpers import is_new_tuple, product, ratio, row, some_stops, some_works, stops, value, work

HALF = ratio("1/2")
REST = row("0 0 0")
LISTS = (rates_of, barring_stops, grazed_stops, left_stops, first_bar, is_free)


def motions(seed, many):
    chance = random.Random(seed)
    found = [REST, row("1 0 0"), row("0 -1 0"), row("0 0 1"), row("0 0 -1")]
    for _ in range(many):
        reach = chance.choice((2, 5, 10 ** 80))
        found.append(row(*[Fraction(chance.randrange(-reach, reach + 1), chance.randrange(1, 4)) for _ in range(3)]))
    return found


class Rates(unittest.TestCase):

    def test_by_hand(self):
        told, some = work(BOX), stops("0:1/4 0:3/4 2:1/2")
        self.assertEqual(rates_of(told, some, row("0 -1 1/2")), row("-2 2 0"))
        self.assertEqual(barring_stops(told, some, row("0 -1 1/2")), (0,))
        self.assertEqual(left_stops(told, some, row("0 -1 1/2")), (1,))
        self.assertEqual(grazed_stops(told, some, row("0 -1 1/2")), (2,))
        self.assertEqual(first_bar(told, some, row("0 -1 1/2")), 0)
        self.assertEqual(first_bar(told, some, row("0 1 0")), 2)
        self.assertEqual(barring_stops(told, some, row("0 -1 0")), (0, 1))
        self.assertIsNone(first_bar(told, some, row("1 0 0")))
        self.assertEqual(rate_at(told, some[0], row("0 -1 1/2")), ratio(-2))
        self.assertEqual([stop_sign(told, one, row("0 -1 1/2")) for one in some], [-1, 1, 0])

    def test_rates(self):
        for told in some_works():
            some = some_stops(told, 81, 8)
            for motion in motions(82, 12):
                rates = rates_of(told, [list(one) for one in some], list(motion))
                is_new_tuple(self, rates)
                self.assertEqual(rates, tuple(ratio(product(row_of(told, one), motion)) for one in some))
                for one, rate in zip(some, rates):
                    self.assertEqual(rate_at(told, list(one), list(motion)), rate)
                    self.assertEqual(stop_sign(told, one, motion), (rate[0] > 0) - (rate[0] < 0))
                    velocity = velocity_at(motion, told.place_at(*one))
                    self.assertEqual(rate, dot_of(told.normal_of(one[0]), velocity))
                signs = [(rate[0] > 0) - (rate[0] < 0) for rate in rates]
                for ask, sign in ((barring_stops, -1), (grazed_stops, 0), (left_stops, 1)):
                    found = ask(told, some, motion)
                    is_new_tuple(self, found)
                    self.assertEqual(found, tuple(at for at in range(8) if signs[at] == sign))
                self.assertEqual(first_bar(told, some, motion), signs.index(-1) if -1 in signs else None)
                self.assertIs(is_free(told, some, motion), -1 not in signs)

    def test_rest_grazes_all(self):
        for told in some_works():
            some = some_stops(told, 83, 6)
            self.assertEqual(grazed_stops(told, some, REST), (0, 1, 2, 3, 4, 5))
            self.assertEqual((barring_stops(told, some, REST), left_stops(told, some, REST)), ((), ()))
            self.assertIs(is_free(told, some, REST), True)
            self.assertIsNone(first_bar(told, some, REST))

    def test_no_stops(self):
        for motion in motions(84, 3):
            self.assertEqual([ask(work(BOX), (), motion) for ask in LISTS], [(), (), (), (), None, True])
            self.assertIs(is_free(work(BOX), [], list(motion)), True)

    def test_stops_that_graze_do_not_bar(self):
        told, some = work(TRIANGLE), stops("0:1/4 1:3/5 2:2/3")
        self.assertEqual(rates_of(told, some, row("1 -1 1")), row("0 0 0"))
        self.assertIs(is_free(told, some, row("1 -1 1")), True)
        self.assertIs(is_free(told, some, row("-1 1 -1")), True)
        self.assertIs(is_free(told, some, row(1, Fraction(-10 ** 90 - 1, 10 ** 90), 1)), False)

    def test_sums_and_multiples(self):
        for told in some_works():
            some = some_stops(told, 85, 3)
            free = [motion for motion in motions(86, 60) if is_free(told, some, motion)]
            for one in free[:8]:
                self.assertTrue(is_free(told, some, scaled_motion(one, ratio("7/3"))))
                self.assertTrue(is_free(told, some, scaled_motion(one, ratio(0))))
                for other in free[:8]:
                    both = motions_sum(one, other)
                    self.assertTrue(is_free(told, some, both))
                    grazed = set(grazed_stops(told, some, one)) & set(grazed_stops(told, some, other))
                    self.assertEqual(grazed_stops(told, some, both), tuple(sorted(grazed)))

    def test_seen_otherwise(self):
        for told in some_works():
            some = some_stops(told, 87, 8)
            for motion in motions(88, 6):
                rates = rates_of(told, some, motion)
                by = row("-3/2 5")
                self.assertEqual(rates_of(told.shifted(by), some, shifted_motion(motion, by)), rates)
                self.assertEqual(rates_of(told.turned(), some, turned_motion(motion)), rates)
                mirrored = mirrored_stops(told, some)
                self.assertEqual(rates_of(told.mirrored(), mirrored, mirrored_motion(motion)), rates)
                grown = rates_of(told.grown(ratio("3/2")), some, grown_motion(motion, ratio("3/2")))
                self.assertEqual(grown, tuple(ratio(value(rate) * Fraction(9, 4)) for rate in rates))
                self.assertEqual(rates_of(told.begun_at(2), begun_stops(told, some, 2), motion), rates)


class FreeShare(unittest.TestCase):

    def test_by_hand(self):
        told, some = work(BOX), stops("0:1/2")
        self.assertEqual(free_share(told, some, row("0 1 0"), row("0 -1 0")), row("0 1/2"))
        self.assertEqual(free_share(told, some, row("0 -1 0"), row("0 2 0")), row("1/3 1"))
        self.assertEqual(free_share(told, some, row("0 1 0"), row("0 2 0")), row("0 1"))
        self.assertEqual(free_share(told, some, row("0 0 0"), row("0 -2 0")), row("0 0"))
        self.assertEqual(free_share(told, some, row("0 -1 0"), row("0 0 0")), row("1 1"))
        self.assertEqual(free_share(told, some, row("1 0 0"), row("-1 0 0")), row("0 1"))
        self.assertIsNone(free_share(told, some, row("0 -1 0"), row("0 -2 0")))
        both = stops("0:1/2 2:1/2")
        self.assertEqual(free_share(told, both, row("0 1 0"), row("0 -1 0")), row("1/2 1/2"))
        self.assertEqual(free_share(told, both, row("0 -2 0"), row("0 1 0")), row("2/3 2/3"))
        self.assertIsNone(free_share(told, both, row("0 1 1/10"), row("0 -1 1")))

    def test_no_common_share(self):
        told, some = work(BOX), stops("0:1/4 2:1/4")
        # One stop lets the first third alone, the other one the last part alone.
        one, other = row("0 -1 1/2"), row("0 2 -1")
        rates = [rates_of(told, some, motion) for motion in (one, other)]
        self.assertEqual(rates, [row("-2 -2"), row("4 4")])
        self.assertEqual(free_share(told, some, one, other), row("1/3 1"))
        some = stops("0:1/4 0:3/4")
        one, other = row("0 -2 1"), row("0 1 -1")
        self.assertEqual([rates_of(told, some, motion) for motion in (one, other)], [row("-4 4"), row("0 -8")])
        self.assertIsNone(free_share(told, some, one, other))

    def test_shares(self):
        kinds = {}
        for told in some_works():
            for seed in range(6):
                some = some_stops(told, 90 + seed, 1 + seed % 4)
                chosen = motions(95 + seed, 12)
                for one, other in zip(chosen, chosen[1:]):
                    found = free_share(told, [list(stop) for stop in some], list(one), list(other))
                    self.shares_are_right(told, some, one, other, found)
                    kind = None if found is None else found[0] == found[1]
                    kinds[kind] = kinds.get(kind, 0) + 1
        self.assertTrue(all(kinds[kind] > 3 for kind in (None, True, False)), kinds)

    def shares_are_right(self, told, some, one, other, found):
        def free_at(t):
            return is_free(told, some, row(*[value(a) + t * (value(b) - value(a)) for a, b in zip(one, other)]))

        tries = [Fraction(k, 60) for k in range(61)]
        if found is None:
            self.assertFalse(any(free_at(t) for t in tries))
            return
        is_new_tuple(self, found)
        first, last = value(found[0]), value(found[1])
        self.assertTrue(0 <= first <= last <= 1)
        tiny = Fraction(1, 10 ** 200)
        for t in tries + [first, last, first - tiny, last + tiny]:
            if 0 <= t <= 1:
                self.assertEqual(free_at(t), first <= t <= last)

    def test_no_stops_and_equal_motions(self):
        self.assertEqual(free_share(work(BOX), (), row("1 2 3"), row("-4 5 6")), row("0 1"))
        self.assertEqual(free_share(work(BOX), [], REST, REST), row("0 1"))
        some = stops("0:1/2 2:1/2")
        self.assertEqual(free_share(work(BOX), some, row("1 0 0"), row("1 0 0")), row("0 1"))
        self.assertEqual(free_share(work(BOX), some, list(REST), REST), row("0 1"))
        self.assertIsNone(free_share(work(BOX), some, row("0 1 0"), row("0 1 0")))


class Errors(unittest.TestCase):

    def test_stops_come_first(self):
        told = work(SKEW)
        for some, index, what in ((None, 0, "many"), ([(0, HALF)] * 9, 0, "many"), ([(0, HALF), None], 1, "stop"),
                                  ([(0, HALF), (5, HALF)], 1, "side"), ([(0, HALF), (1, HALF), (0, (0, 1))], 2, "spot")):
            for ask in LISTS:
                with self.assertRaises(BadStop) as caught:
                    ask(told, some, None)
                self.assertEqual((caught.exception.index, caught.exception.what), (index, what))
            with self.assertRaises(BadStop) as caught:
                free_share(told, some, None, None)
            self.assertEqual((caught.exception.index, caught.exception.what), (index, what))
        for stop, what in ((None, "stop"), ((5, HALF), "side"), ((0, HALF, HALF), "stop"), ((0, (3, 2)), "spot")):
            for ask in (rate_at, stop_sign):
                with self.assertRaises(BadStop) as caught:
                    ask(told, stop, None)
                self.assertEqual((caught.exception.index, caught.exception.what), (0, what))

    def test_motions(self):
        told, some = work(SKEW), stops("0:1/2 1:1/2")
        for motion in NO_MOTIONS:
            for kept in (some, ()):
                for ask in LISTS:
                    with self.assertRaises(BadMotion):
                        ask(told, kept, motion)
                with self.assertRaises(BadMotion):
                    free_share(told, kept, motion, REST)
                with self.assertRaises(BadMotion):
                    free_share(told, kept, REST, motion)
            for ask in (rate_at, stop_sign):
                with self.assertRaises(BadMotion):
                    ask(told, some[0], motion)


if __name__ == "__main__":
    unittest.main()
