"""[7.5], [7.6]: the amounts that a stop may have, and the range of pulls that are borne."""

import unittest
from fractions import Fraction

from firmstops.allspots import all_bear
from firmstops.barring import left_stops
from firmstops.cones import edge_motions
from firmstops.errors import BadPull, NoStop
from firmstops.pulls import NO_PULL, is_borne
from firmstops.pushes import rows_of
from firmstops.somespots import Placed, some_bear
from firmstops.spans import all_pull_range, amount_range, needed_stops, pull_range, some_pull_range

from helpers import BOX, NO_MOTIONS, TRIANGLE
from helpers import hold_cases, is_new_tuple, is_range, lean_solutions, ratio, refused, refuses_open, refuses_stops
from helpers import row, some_pulls, some_stops, some_works, spot_cases, stops, stretches, values, with_further, work

GREAT = 10 ** 280 + 3
TWO = stops("0:1/4 0:3/4")
FURTHER = (row("0 0 -1"), row("1 0 0"), row("-1/2 3 7"), NO_PULL)
NO_NUMBERS = (-1, 2, 8, True, False, None, 1.0, "0", (0, 1), [0])


def cases():
    return list(hold_cases(4)) + [(told, some_stops(told, 400, 6)) for told in some_works()[:8]]


def opposites(line):
    return row(*[-one for one in values(line)])


class AmountRange(unittest.TestCase):

    def test_by_hand(self):
        told = work(BOX)
        self.assertEqual(amount_range(told, TWO, row("0 -1 -2"), 0), row("1/8 1/8"))
        self.assertEqual(amount_range(told, [list(one) for one in TWO], list(row("0 -1 -2")), 1), row("1/8 1/8"))
        self.assertEqual(amount_range(told, TWO, row("0 -1 -1"), 1), row("0 0"))
        self.assertIsNone(amount_range(told, TWO, row("0 -1 -4"), 0))
        # A third stop at the middle can take the load of the other two.
        three = TWO + stops("0:1/2")
        self.assertEqual(amount_range(told, three, row("0 -1 -2"), 0), row("0 1/8"))
        self.assertEqual(amount_range(told, three, row("0 -1 -2"), 2), row("0 1/4"))
        # Opposite stops can push one another as much as they like.
        facing = stops("0:1/2 2:1/2")
        self.assertEqual(amount_range(told, facing, row("0 -1 -2"), 0), (ratio("1/4"), None))
        self.assertEqual(amount_range(told, facing, row("0 -1 -2"), 1), (ratio(0), None))
        self.assertEqual(amount_range(told, facing, NO_PULL, 1), (ratio(0), None))
        self.assertEqual(amount_range(told, facing + stops("1:1/2"), row("0 -1 -2"), 2), row("0 0"))
        self.assertEqual(amount_range(told, TWO, NO_PULL, 0), row("0 0"))

    def test_ranges(self):
        kinds = {}
        for told, some in cases():
            lines = rows_of(told, some)
            for pull in some_pulls(401, 3, lines):
                for number in range(len(some)):
                    found = amount_range(told, some, pull, number)
                    kind = None if found is None else (found[0] == ratio(0), found[1] is None)
                    kinds[kind] = kinds.get(kind, 0) + 1
                    self.is_right(told, some, pull, number, found)
        self.assertEqual(len(kinds), 5, kinds)
        self.assertGreater(min(kinds.values()), 10, kinds)

    def is_right(self, told, some, pull, number, found):
        lines = rows_of(told, some)
        solutions = lean_solutions(lines, opposites(pull))
        self.assertEqual(found is None, len(solutions) == 0)
        if found is None:
            return
        is_new_tuple(self, found)
        amounts = [one[number] for one in solutions]
        self.assertEqual(found[0], ratio(min(amounts)))
        # The stop can be pushed without end exactly if the others, or it alone, push back.
        others = lines[:number] + lines[number + 1:]
        endless = len(others) > 0 and len(lean_solutions(others, opposites(lines[number]))) > 0
        self.assertEqual(found[1], None if endless else ratio(max(amounts)))
        leaves = any(number in left_stops(told, some, motion) for motion in edge_motions(told, some))
        self.assertEqual(found[1] is None, not leaves)

    def test_great_numbers(self):
        told = work(BOX)
        pull = row(0, -GREAT, -2 * GREAT - 1)
        self.assertEqual(amount_range(told, TWO, pull, 0), row(Fraction(GREAT - 1, 8), Fraction(GREAT - 1, 8)))
        near = stops("0:1/4") + ((0, ratio(Fraction(3, 4) + Fraction(1, GREAT))),)
        for number in (0, 1):
            self.is_right(told, near, row("0 -1 -2"), number, amount_range(told, near, row("0 -1 -2"), number))

    def test_refuses(self):
        told = work(BOX)
        refuses_stops(self, lambda some: amount_range(work(TRIANGLE), some, None, None))
        for thing in NO_MOTIONS:
            refused(self, BadPull, lambda: amount_range(told, TWO, thing, None))
        for number in NO_NUMBERS:
            refused(self, NoStop, lambda: amount_range(told, TWO, NO_PULL, number), number)
        for some, number in (((), 0), ((), -1), (TWO[:1], 1)):
            refused(self, NoStop, lambda: amount_range(told, some, row("9 9 9"), number), number)


class NeededStops(unittest.TestCase):

    def test_by_hand(self):
        told = work(BOX)
        self.assertEqual(needed_stops(told, TWO, row("0 -1 -2")), (0, 1))
        self.assertEqual(needed_stops(told, TWO, row("0 -1 -1")), (0,))
        self.assertEqual(needed_stops(told, TWO, NO_PULL), ())
        self.assertEqual(needed_stops(told, TWO, row("0 -1 -4")), ())
        self.assertEqual(needed_stops(told, TWO + stops("0:1/2"), row("0 -1 -2")), ())
        self.assertEqual(needed_stops(told, TWO + stops("0:1/2"), row("0 -1 -5/2")), (1,))
        self.assertEqual(needed_stops(told, [list(one) for one in TWO], list(row("0 -1 -2"))), (0, 1))
        self.assertEqual(needed_stops(told, (), NO_PULL), ())
        self.assertEqual(needed_stops(told, (), row("1 0 0")), ())

    def test_without_them_it_is_not_borne(self):
        many = {}
        for told, some in cases():
            for pull in some_pulls(402, 4, rows_of(told, some)):
                found = needed_stops(told, some, pull)
                is_new_tuple(self, found)
                expected = ()
                if is_borne(told, some, pull):
                    expected = tuple(at for at in range(len(some))
                                     if not is_borne(told, some[:at] + some[at + 1:], pull))
                self.assertEqual(found, expected)
                many[len(found)] = many.get(len(found), 0) + 1
        self.assertGreaterEqual(set(many), {0, 1, 2, 3}, many)

    def test_refuses(self):
        refuses_stops(self, lambda some: needed_stops(work(TRIANGLE), some, None))
        for thing in NO_MOTIONS:
            refused(self, BadPull, lambda: needed_stops(work(BOX), TWO, thing))
            refused(self, BadPull, lambda: needed_stops(work(BOX), (), thing))


class PullRange(unittest.TestCase):

    def test_by_hand(self):
        told = work(BOX)
        pull = row("0 -1 -2")
        self.assertEqual(pull_range(told, TWO, pull, row("0 0 -1")), row("-1 1"))
        self.assertEqual(pull_range(told, TWO, pull, row("0 0 -2")), row("-1/2 1/2"))
        self.assertEqual(pull_range(told, [list(one) for one in TWO], list(pull), list(row("1 0 0"))), row("0 0"))
        self.assertEqual(pull_range(told, TWO, pull, row("0 -1 -2")), (ratio(-1), None))
        self.assertEqual(pull_range(told, TWO, pull, row("0 1 2")), (None, ratio(1)))
        self.assertEqual(pull_range(told, TWO, pull, NO_PULL), (None, None))
        self.assertIsNone(pull_range(told, TWO, row("0 -1 -4"), NO_PULL))
        self.assertIsNone(pull_range(told, TWO, row("1 -1 -2"), row("0 0 -1")))
        self.assertEqual(pull_range(told, TWO, row("1 -1 -2"), row("1 0 0")), row("-1 -1"))
        firm = stops("0:1/2 1:1/2 2:1/4 3:3/4")
        self.assertEqual(pull_range(told, firm, pull, row("5 6 7")), (None, None))
        self.assertEqual(pull_range(told, firm, NO_PULL, NO_PULL), (None, None))

    def test_no_stops(self):
        told = work(BOX)
        self.assertEqual(pull_range(told, (), NO_PULL, row("1 2 3")), row("0 0"))
        self.assertEqual(pull_range(told, [], row("1 2 3"), row("-2 -4 -6")), row("1/2 1/2"))
        self.assertIsNone(pull_range(told, (), row("1 2 3"), row("1 2 4")))
        self.assertEqual(pull_range(told, (), NO_PULL, NO_PULL), (None, None))
        self.assertIsNone(pull_range(told, (), row("1 2 3"), NO_PULL))

    def test_ranges(self):
        kinds = {}
        for told, some in cases():
            for pull in some_pulls(403, 3, rows_of(told, some)):
                for further in FURTHER:
                    found = pull_range(told, some, pull, further)
                    is_range(self, found, lambda t: is_borne(told, some, with_further(pull, further, t)))
                    kind = None if found is None else (found[0] is None, found[1] is None, found[0] == found[1])
                    kinds[kind] = kinds.get(kind, 0) + 1
        self.assertEqual(set(kinds), {None, (True, True, True), (False, True, False), (True, False, False),
                                      (False, False, True), (False, False, False)}, kinds)

    def test_great_numbers(self):
        told = work(BOX)
        pull, further = row(0, -GREAT, -2 * GREAT), row(0, 0, Fraction(-1, GREAT))
        self.assertEqual(pull_range(told, TWO, pull, further), row(-GREAT ** 2, GREAT ** 2))

    def test_refuses(self):
        told = work(BOX)
        refuses_stops(self, lambda some: pull_range(work(TRIANGLE), some, None, None))
        for thing in NO_MOTIONS:
            for some in (TWO, ()):
                refused(self, BadPull, lambda: pull_range(told, some, thing, NO_PULL))
                refused(self, BadPull, lambda: pull_range(told, some, NO_PULL, thing))


class SpotRanges(unittest.TestCase):

    def test_by_hand(self):
        told = work(BOX)
        some = stretches("0:1/8:1/4 0:3/4:3/4")
        pull, further = row("0 -1 -2"), row("0 0 -1")
        self.assertEqual(all_pull_range(told, some, pull, further), row("-1 1"))
        self.assertEqual(some_pull_range(told, some, pull, further), row("-3/2 1"))
        lists = [list(one) for one in some]
        self.assertEqual(all_pull_range(told, lists, list(pull), list(further)), row("-1 1"))
        self.assertEqual(some_pull_range(told, lists, list(pull), list(further)), row("-3/2 1"))
        # Each choice alone bears some of these pulls, but no pull is borne at both of them.
        apart = stretches("0:1/4:1/2")
        self.assertEqual(all_pull_range(told, stretches("0:1/4:1/4"), pull, further), row("-1 -1"))
        self.assertIsNone(all_pull_range(told, apart, pull, further))
        self.assertEqual(some_pull_range(told, apart, pull, further), row("-1 0"))
        self.assertIsNone(some_pull_range(told, apart, row("1 -1 -2"), further))
        self.assertEqual(all_pull_range(told, apart, NO_PULL, NO_PULL), (None, None))
        self.assertEqual(some_pull_range(told, apart, pull, row("0 -1 -2")), (ratio(-1), None))
        self.assertEqual(all_pull_range(told, some, pull, row("0 1 2")), (None, ratio(1)))

    def test_ranges(self):
        kinds = {"all": set(), "some": set()}
        for at, (told, some) in enumerate(spot_cases()):
            for pull in some_pulls(404, 1 + at % 2, rows_of(told, [one[:2] for one in some if one[1] != ratio(0)])):
                further = FURTHER[(at + len(some)) % len(FURTHER)]
                found = all_pull_range(told, some, pull, further)
                is_range(self, found, lambda t: all_bear(told, some, with_further(pull, further, t)) is None)
                kinds["all"].add(None if found is None else (found[0] is None, found[1] is None))
                found = some_pull_range(told, some, pull, further)
                is_range(self, found,
                         lambda t: isinstance(some_bear(told, some, with_further(pull, further, t)), Placed))
                kinds["some"].add(None if found is None else (found[0] is None, found[1] is None))
        self.assertGreaterEqual(len(kinds["all"]), 4, kinds)
        self.assertGreaterEqual(len(kinds["some"]), 4, kinds)

    def test_refuses(self):
        told = work(TRIANGLE)
        for ask in (all_pull_range, some_pull_range):
            refuses_open(self, lambda some: ask(told, some, None, None))
            for thing in NO_MOTIONS:
                refused(self, BadPull, lambda: ask(told, stretches("0:1/4:1/2"), thing, NO_PULL))
                refused(self, BadPull, lambda: ask(told, stretches("0:1/4:1/2"), NO_PULL, thing))


if __name__ == "__main__":
    unittest.main()
