"""[10.7]: wishes, and whether they hold."""

import unittest

from firmstops.errors import BadWish
from firmstops.held import Held, held_or_loose
from firmstops.pulls import Pushes, bear_pull
from firmstops.pushes import rows_of
from firmstops.wishes import check_wish, check_wishes, holds_all, holds_wish

from helpers import BOX, NO_DIRECTIONS, NO_MOTIONS, NO_SEQUENCES, TRIANGLE, Alike
from helpers import are_firm, hold_cases, product, refused, refuses_stops, row, some_pulls, stops, work

GREAT = 10 ** 280 + 3
DOWN = row("0 -1 -2")
WISHES = (("firm",), ("held",), ("loose",), ("bears", DOWN), ("slid in", row("0 -1")))
WAYS = tuple(row(x, y) for x in (-2, 0, 1) for y in (-1, 0, 3) if (x, y) != (0, 0)) + (row(GREAT, 1), row(-1, GREAT))

NO_WISHES = NO_SEQUENCES + (
    Alike(), (), [], "firm", ("firm", "held"), ("firm", DOWN), ("firm", None), ["loose", ()], ("Firm",), ("fast",),
    ("",), (None,), (0,), (b"firm",), (("firm",),), ([],), ({},), (Alike(),), ("bears",), ("slid in",),
    ("slid_in", DOWN), ("bears", DOWN, DOWN), ("bears", DOWN[0], DOWN[1], DOWN[2]), ("slid in", row("1 0"), 0),
    ("slid", row("1 0")),
    ("slid in", DOWN), ("bears", row("1 0")), ("bear", DOWN), (DOWN, "bears"), ("held", row("1 0")), ["loose", DOWN],
    (Alike(), DOWN), (True, DOWN),
) + tuple(("bears", thing) for thing in NO_MOTIONS) + tuple(["slid in", thing] for thing in NO_DIRECTIONS)


def as_lists(wish):
    """A wish with lists for sequences."""
    return [list(part) if isinstance(part, tuple) else part for part in wish]


class Checks(unittest.TestCase):

    def test_right(self):
        for wish in WISHES + (("bears", row("0 0 0")), ("bears", row(GREAT, 0, 0)), ("slid in", row(0, -GREAT))):
            self.assertIsNone(check_wish(wish))
            self.assertIsNone(check_wish(as_lists(wish)))
            self.assertIsNone(check_wishes((wish,)))
            self.assertIsNone(check_wishes([as_lists(wish)] * 4))
        self.assertIsNone(check_wishes(()))
        self.assertIsNone(check_wishes([]))
        self.assertIsNone(check_wishes(WISHES[:4]))

    def test_wrong(self):
        for thing in NO_WISHES:
            refused(self, BadWish, lambda: check_wish(thing), 0, "wish")
            refused(self, BadWish, lambda: check_wishes([thing]), 0, "wish")
            refused(self, BadWish, lambda: check_wishes(WISHES[1:3] + (thing, None)), 2, "wish")

    def test_many(self):
        for thing in NO_SEQUENCES + (WISHES, list(WISHES), [None] * 5, (("firm",),) * 5, Alike()):
            refused(self, BadWish, lambda: check_wishes(thing), 0, "many")
        # One wish alone is no sequence of wishes.
        refused(self, BadWish, lambda: check_wishes(("firm",)), 0, "wish")
        refused(self, BadWish, lambda: check_wishes([None] * 4), 0, "wish")


class OneWish(unittest.TestCase):

    def test_by_hand(self):
        told = work(BOX)
        for some, expected in (
                ("", (False, False, True, False, True)),
                ("0:1/2", (False, False, True, True, True)),
                ("2:1/2", (False, False, True, False, False)),
                ("1:1/2 3:1/2", (False, False, True, False, True)),
                ("0:1/4 0:3/4 2:1/2 1:1/2 3:1/2", (True, True, False, True, False)),
                ("0:1/2 1:1/2 2:1/2 3:1/2", (False, True, False, True, False))):
            for wish, holds in zip(WISHES, expected):
                self.assertIs(holds_wish(told, stops(some), wish), holds, (some, wish))
                self.assertIs(holds_wish(told, [list(stop) for stop in stops(some)], as_lists(wish)), holds)

    def test_held_by_bend(self):
        told, some = work(TRIANGLE), stops("0:1/4 1:3/5 2:2/3")
        self.assertEqual([holds_wish(told, some, wish) for wish in WISHES[:3]], [False, True, False])
        self.assertTrue(holds_wish(told, some, ("bears", row("0 0 0"))))

    def test_firm_held_loose(self):
        seen = set()
        for told, some in hold_cases():
            firm, held, loose = (holds_wish(told, some, (word,)) for word in ("firm", "held", "loose"))
            self.assertIs(firm, are_firm(rows_of(told, some)))
            self.assertIs(held, isinstance(held_or_loose(told, some), Held))
            self.assertIs(loose, not held)
            seen.add((firm, held))
        self.assertEqual(seen, {(True, True), (False, True), (False, False)})

    def test_bears(self):
        seen = set()
        for told, some in list(hold_cases())[::3]:
            for pull in some_pulls(620, 3, rows_of(told, some)):
                found = holds_wish(told, some, ("bears", pull))
                self.assertIs(found, isinstance(bear_pull(told, some, pull), Pushes))
                seen.add(found)
        self.assertEqual(seen, {True, False})

    def test_slid_in(self):
        seen = set()
        for told, some in hold_cases():
            for way in WAYS:
                found = holds_wish(told, some, ("slid in", way))
                self.assertIs(found, all(product(told.normals[side], way) <= 0 for side, _ in some))
                seen.add((found, len(some) > 2))
                if not some:
                    self.assertIs(found, True)
        self.assertEqual(len(seen), 4)
        # Along a side is let.
        self.assertIs(holds_wish(work(BOX), stops("0:1/2 2:1/2"), ("slid in", row("1 0"))), True)
        self.assertIs(holds_wish(work(BOX), stops("0:1/2 2:1/2"), ("slid in", row(GREAT, 1))), False)

    def test_refuses(self):
        triangle = work(TRIANGLE)
        refuses_stops(self, lambda some: holds_wish(triangle, some, None))
        for thing in NO_WISHES:
            refused(self, BadWish, lambda: holds_wish(triangle, (), thing), 0, "wish")
            refused(self, BadWish, lambda: holds_wish(triangle, stops("0:1/2"), thing), 0, "wish")


class AllWishes(unittest.TestCase):

    def test_by_hand(self):
        told, some = work(BOX), stops("0:1/4 0:3/4 2:1/2 1:1/2 3:1/2")
        self.assertIs(holds_all(told, some, ()), True)
        self.assertIs(holds_all(told, some, []), True)
        self.assertIs(holds_all(told, (), ()), True)
        self.assertIs(holds_all(told, some, (("firm",), ["held"], ("bears", DOWN), ["bears", list(DOWN)])), True)
        self.assertIs(holds_all(told, some, [("firm",), ("held",), ("loose",)]), False)
        self.assertIs(holds_all(told, some, [("firm",), ("held",), ("bears", DOWN), ("slid in", row("0 -1"))]), False)
        self.assertIs(holds_all(told, some, [("loose",)]), False)
        self.assertIs(holds_all(told, (), [("loose",), ("slid in", row("0 -1")), ("bears", row("0 0 0"))]), True)

    def test_all(self):
        seen = set()
        for told, some in list(hold_cases())[::4]:
            one_by_one = [holds_wish(told, some, wish) for wish in WISHES]
            for first in range(5):
                for last in range(first, min(5, first + 4) + 1):
                    found = holds_all(told, some, WISHES[first:last])
                    self.assertIs(found, all(one_by_one[first:last]))
                    seen.add((found, last - first))
        self.assertTrue({(True, 0), (True, 1), (True, 2), (False, 1), (False, 4)} <= seen)

    def test_refuses(self):
        triangle = work(TRIANGLE)
        refuses_stops(self, lambda some: holds_all(triangle, some, None))
        for thing in NO_SEQUENCES + (WISHES, [None] * 5):
            refused(self, BadWish, lambda: holds_all(triangle, (), thing), 0, "many")
        for thing in NO_WISHES:
            # All wishes are checked, though the first one does not hold.
            refused(self, BadWish, lambda: holds_all(triangle, (), [("firm",), thing, None]), 1, "wish")


if __name__ == "__main__":
    unittest.main()
