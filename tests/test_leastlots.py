"""[8.1] to [8.3]: aims, least lots, spare stops, and stops that may be lost."""

import unittest
from itertools import combinations

from firmstops.errors import BadAim, BadCount
from firmstops.firm import is_firm
from firmstops.held import is_held
from firmstops.leastlots import check_aim, has_aim, least_lots, lost_lot, most_lost, spare_stops
from firmstops.pushes import rows_of

from helpers import BOX, EIGHT, NO_SEQUENCES, SKEW, TRIANGLE, Alike
from helpers import are_firm, hold_cases, is_new_tuple, refused, refuses_stops, some_stops, some_works, stops, work

AIMS = ("firm", "held")
NO_AIMS = NO_SEQUENCES + ("", "Firm", "HELD", "held ", "loose", b"firm", ("firm",), ["held"], "firmheld", "fir", Alike())
NO_COUNTS = (-1, 9, True, False, None, 1.0, "1", (1, 1), [1], 10 ** 300)
FIRM = stops("0:1/2 1:1/2 2:1/4 3:3/4")
BEND = stops("0:1/4 1:3/5 2:2/3")


def cases():
    yield from list(hold_cases(5))[::2]
    for at, told in enumerate(some_works()[:6]):
        yield told, some_stops(told, 440 + at, 6)
    yield work(TRIANGLE), some_stops(work(TRIANGLE), 450, 8)
    yield work(SKEW), some_stops(work(SKEW), 451, 7)
    # Some stops twice, and works of which each stop, of five and of six, is needed.
    yield work(BOX), FIRM + FIRM
    yield work(BOX), FIRM[:2] + FIRM[1:] + FIRM[2:3] + stops("0:1/4")
    yield work(EIGHT), stops("0:1/2 4:1/2 1:1/4 3:3/4 6:1/2")
    yield work(EIGHT), stops("0:1/4 4:3/4 2:1/4 6:3/4 1:1/2 5:1/2")


def have(told, some, aim):
    return is_firm(told, some) if aim == "firm" else is_held(told, some)


def outcomes(told, some, aim):
    """For each lot, as a tuple, whether its stops have the aim."""
    return {lot: have(told, [some[at] for at in lot], aim)
            for many in range(len(some) + 1) for lot in combinations(range(len(some)), many)}


class Aims(unittest.TestCase):

    def test_check_aim(self):
        self.assertIsNone(check_aim("firm"))
        self.assertIsNone(check_aim("held"))
        self.assertIsNone(check_aim("".join(["fi", "rm"])))
        for thing in NO_AIMS:
            refused(self, BadAim, lambda: check_aim(thing), thing)

    def test_has_aim(self):
        told = work(TRIANGLE)
        self.assertIs(has_aim(told, BEND, "held"), True)
        self.assertIs(has_aim(told, BEND, "firm"), False)
        self.assertIs(has_aim(work(BOX), [list(one) for one in FIRM], "firm"), True)
        self.assertIs(has_aim(work(BOX), (), "held"), False)
        kinds = set()
        for told, some in cases():
            found = tuple(has_aim(told, some, aim) for aim in AIMS)
            self.assertEqual(found, (are_firm(rows_of(told, some)), is_held(told, some)))
            kinds.add(found)
        # What is firm is held.
        self.assertEqual(kinds, {(False, False), (False, True), (True, True)})

    def test_refuses(self):
        told = work(TRIANGLE)
        refuses_stops(self, lambda some: has_aim(told, some, None))
        for thing in NO_AIMS:
            refused(self, BadAim, lambda: has_aim(told, BEND, thing), thing)


class LeastLots(unittest.TestCase):

    def test_by_hand(self):
        told = work(TRIANGLE)
        self.assertEqual(least_lots(told, BEND, "held"), ((0, 1, 2),))
        self.assertEqual(least_lots(told, BEND, "firm"), ())
        self.assertEqual(least_lots(told, [list(one) for one in BEND], "held"), ((0, 1, 2),))
        self.assertEqual(least_lots(told, (), "held"), ())
        self.assertEqual(least_lots(told, (), "firm"), ())
        self.assertEqual(least_lots(work(BOX), FIRM, "firm"), ((0, 1, 2, 3),))
        self.assertEqual(least_lots(work(BOX), FIRM, "held"), ((0, 1, 2, 3),))

    def test_equal_candidates(self):
        twice = BEND[:1] + BEND
        self.assertEqual(least_lots(work(TRIANGLE), twice, "held"), ((0, 2, 3), (1, 2, 3)))
        eight = FIRM + FIRM
        found = least_lots(work(BOX), eight, "firm")
        self.assertEqual(len(found), 16)
        self.assertEqual(found[0], (0, 1, 2, 3))
        self.assertEqual(found[-1], (4, 5, 6, 7))

    def test_all_lots(self):
        sizes = {"firm": set(), "held": set()}
        for told, some in cases():
            for aim in AIMS:
                known = outcomes(told, some, aim)
                expected = [lot for lot in known if known[lot] and not any(
                    known[part] and part != lot and set(part) <= set(lot) for part in known)]
                found = least_lots(told, some, aim)
                is_new_tuple(self, found)
                self.assertEqual(found, tuple(sorted(expected, key=lambda lot: (len(lot), lot))))
                sizes[aim].update(len(lot) for lot in found)
                for lot in known:
                    self.assertEqual(known[lot], any(set(part) <= set(lot) for part in found))
        self.assertEqual(sizes["firm"], {4, 5, 6})
        self.assertGreaterEqual(sizes["held"], {3, 4})

    def test_five_and_six(self):
        told = work(EIGHT)
        # Two stops that face one another, and three whose normal lines meet elsewhere.
        five = stops("0:1/2 4:1/2 1:1/4 3:3/4 6:1/2")
        self.assertEqual(least_lots(told, five, "firm"), ((0, 1, 2, 3, 4),))
        # Three times two stops that face one another.
        six = stops("0:1/4 4:3/4 2:1/4 6:3/4 1:1/2 5:1/2")
        self.assertEqual(least_lots(told, six, "firm"), ((0, 1, 2, 3, 4, 5),))
        self.assertEqual(least_lots(told, six + five[:1], "firm"), ((1, 2, 5, 6), (0, 1, 2, 3, 4, 5)))

    def test_great_numbers(self):
        great = some_works()[8]
        for seed in range(3):
            some = some_stops(great, 452 + seed, 6)
            for aim in AIMS:
                known = outcomes(great, some, aim)
                for lot in least_lots(great, some, aim):
                    self.assertTrue(known[lot])

    def test_refuses(self):
        told = work(TRIANGLE)
        refuses_stops(self, lambda some: least_lots(told, some, None))
        for thing in NO_AIMS:
            refused(self, BadAim, lambda: least_lots(told, (), thing), thing)


class SpareStops(unittest.TestCase):

    def test_by_hand(self):
        told = work(TRIANGLE)
        self.assertEqual(spare_stops(told, BEND, "held"), ())
        self.assertEqual(spare_stops(told, BEND[:1] + BEND, "held"), (0, 1))
        self.assertEqual(spare_stops(told, [list(one) for one in BEND + BEND], "held"), (0, 1, 2, 3, 4, 5))
        self.assertEqual(spare_stops(told, BEND + BEND, "firm"), ())
        self.assertEqual(spare_stops(told, (), "firm"), ())
        self.assertEqual(spare_stops(work(BOX), FIRM + FIRM[3:], "firm"), (3, 4))

    def test_all(self):
        many = set()
        for told, some in cases():
            for aim in AIMS:
                found = spare_stops(told, some, aim)
                is_new_tuple(self, found)
                expected = tuple(at for at in range(len(some)) if have(told, some[:at] + some[at + 1:], aim))
                self.assertEqual(found, expected)
                many.add(len(found))
        self.assertGreaterEqual(many, {0, 1, 2, 3})

    def test_refuses(self):
        told = work(TRIANGLE)
        refuses_stops(self, lambda some: spare_stops(told, some, None))
        for thing in NO_AIMS:
            refused(self, BadAim, lambda: spare_stops(told, BEND, thing), thing)


def lost_by_hand(known, many):
    """The first lot of so many indices without which the others lack the aim, or None."""
    whole = max(known, key=len)
    for lot in combinations(whole, min(many, len(whole))):
        if not known[tuple(at for at in whole if at not in lot)]:
            return lot
    return None


class LostLot(unittest.TestCase):

    def test_by_hand(self):
        told = work(BOX)
        self.assertEqual(lost_lot(told, FIRM), (0,))
        self.assertEqual(lost_lot(told, [list(one) for one in FIRM + FIRM]), None)
        self.assertEqual(lost_lot(told, FIRM + FIRM, 2), (0, 4))
        self.assertEqual(lost_lot(told, FIRM + FIRM[:1]), (1,))
        self.assertIsNone(lost_lot(told, FIRM, 0))
        self.assertEqual(lost_lot(told, FIRM[:3], 0), ())
        self.assertEqual(lost_lot(told, FIRM, 8), (0, 1, 2, 3))
        self.assertEqual(lost_lot(told, FIRM, 5), (0, 1, 2, 3))
        self.assertEqual(lost_lot(told, (), 0), ())
        self.assertEqual(lost_lot(told, (), 8, aim="held"), ())
        self.assertEqual(lost_lot(work(TRIANGLE), BEND, 0), ())
        self.assertIsNone(lost_lot(work(TRIANGLE), BEND, 0, aim="held"))
        self.assertEqual(lost_lot(work(TRIANGLE), BEND, lost=1, aim="held"), (0,))
        self.assertEqual(lost_lot(told, FIRM + FIRM, 8), (0, 1, 2, 3, 4, 5, 6, 7))

    def test_all(self):
        for told, some in cases():
            for aim in AIMS:
                known = outcomes(told, some, aim)
                for many in range(9):
                    found = lost_lot(told, some, many, aim=aim)
                    is_new_tuple(self, found)
                    self.assertEqual(found, lost_by_hand(known, many), (some, many))

    def test_aim_by_name_alone(self):
        with self.assertRaises(TypeError):
            lost_lot(work(BOX), FIRM, 1, "firm")

    def test_refuses(self):
        told = work(TRIANGLE)
        refuses_stops(self, lambda some: lost_lot(told, some, None, aim=None))
        for thing in NO_COUNTS:
            refused(self, BadCount, lambda: lost_lot(told, BEND, thing, aim=None), thing)
        for thing in NO_AIMS:
            for many in (0, 1, 8):
                refused(self, BadAim, lambda: lost_lot(told, BEND, many, aim=thing), thing)


class MostLost(unittest.TestCase):

    def test_by_hand(self):
        told = work(BOX)
        self.assertEqual(most_lost(told, FIRM, "firm"), 0)
        self.assertEqual(most_lost(told, FIRM + FIRM, "firm"), 1)
        self.assertIsNone(most_lost(told, FIRM[:3], "firm"))
        self.assertIsNone(most_lost(told, (), "held"))
        self.assertIsNone(most_lost(work(TRIANGLE), BEND, "firm"))
        self.assertEqual(most_lost(work(TRIANGLE), [list(one) for one in BEND + BEND], "held"), 1)
        self.assertEqual(most_lost(work(EIGHT), stops("0:1/4 4:3/4 2:1/4 6:3/4 1:1/2 5:1/2"), "firm"), 0)

    def test_all(self):
        found = set()
        for told, some in cases():
            for aim in AIMS:
                known = outcomes(told, some, aim)
                kept = [many for many in range(len(some) + 1) if lost_by_hand(known, many) is None]
                most = most_lost(told, some, aim)
                self.assertEqual(most, kept[-1] if kept else None)
                self.assertEqual(kept, list(range(len(kept))))
                found.add(most)
        self.assertGreaterEqual(found, {None, 0, 1})

    def test_refuses(self):
        told = work(TRIANGLE)
        refuses_stops(self, lambda some: most_lost(told, some, None))
        for thing in NO_AIMS:
            refused(self, BadAim, lambda: most_lost(told, BEND, thing), thing)


if __name__ == "__main__":
    unittest.main()
