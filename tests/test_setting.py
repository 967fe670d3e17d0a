"""[9.6]: greatest first lots, how many stops are set behind, and the slides among a lot."""

import unittest
from itertools import combinations

from firmstops.errors import BadLot
from firmstops.setting import fewest_behind, setting_slides, settings
from firmstops.sliding import slide_ins
from firmstops.works import Work

from helpers import BOX, EIGHT, NO_SEQUENCES, SKEW, SQUARE, TRIANGLE, Alike
from helpers import hold_cases, is_new_tuple, product, ratio, refused, refuses_stops, row, some_stops, some_works
from helpers import stops, value, work

GREAT = 10 ** 280 + 3
ROUND_BOX = "0:1/2 1:1/2 2:1/2 3:1/2"
DOUBLE_BOX = "0:1/4 1:1/2 0:3/4 2:1/2 3:1/4 2:1/4 3:1/2 1:1/4"
ROUND_THREE = "0:1/2 1:1/2 2:1/2"


def cases():
    yield from hold_cases()
    for at, told in enumerate(some_works()):
        for many in (7, 8):
            yield told, some_stops(told, 520 + many + at, many)


def lets_some(told, some, lot):
    """Whether a lot lets a slide in: if any direction is let, then one along a side or (1, 0) is."""
    normals = [told.normals[some[at][0]] for at in lot]
    ways = [row("1 0")] + [way for x, y in normals for way in (row(-value(y), value(x)), row(value(y), -value(x)))]
    return any(all(product(normal, way) <= 0 for normal in normals) for way in ways)


def first_lots(told, some):
    """All first lots, as sets."""
    every = [lot for size in range(len(some) + 1) for lot in combinations(range(len(some)), size)]
    return [lot for lot in every if lets_some(told, some, lot)]


def greatest_lots(told, some):
    """All first lots that no further stop can join, in their order."""
    lots = first_lots(told, some)
    found = [lot for lot in lots
             if not any(tuple(sorted(lot + (at,))) in lots for at in range(len(some)) if at not in lot)]
    return tuple(sorted(found, key=lambda lot: (-len(lot), lot)))


class Settings(unittest.TestCase):

    def test_by_hand(self):
        box, triangle = work(BOX), work(TRIANGLE)
        self.assertEqual(settings(box, ()), ((),))
        self.assertEqual(settings(box, []), ((),))
        self.assertEqual(settings(box, stops("0:1/2 1:1/2 2:1/2")), ((0, 1, 2),))
        self.assertEqual(settings(box, stops(ROUND_BOX)), ((0, 1, 2), (0, 1, 3), (0, 2, 3), (1, 2, 3)))
        self.assertEqual(settings(triangle, stops(ROUND_THREE)), ((0, 1), (0, 2), (1, 2)))
        self.assertEqual(settings(triangle, stops("0:1/2")), ((0,),))
        self.assertEqual(settings(triangle, [[2, (1, 2)], [0, (1, 2)], [1, (1, 2)]]), ((0, 1), (0, 2), (1, 2)))

    def test_lots_of_different_size(self):
        # More stops stand first, though their indices come later.
        triangle = work(TRIANGLE)
        found = settings(triangle, stops("0:1/2 1:1/2 2:1/3 2:1/2 2:2/3"))
        self.assertEqual(found, ((0, 2, 3, 4), (1, 2, 3, 4), (0, 1)))
        found = settings(triangle, stops("0:1/2 1:1/2 2:1/2 1:1/3"))
        self.assertEqual(found, ((0, 1, 3), (1, 2, 3), (0, 2)))

    def test_eight(self):
        box, eight = work(BOX), work(EIGHT)
        self.assertEqual(settings(box, stops(DOUBLE_BOX)), (
            (0, 1, 2, 3, 5, 7), (0, 1, 2, 4, 6, 7), (0, 2, 3, 4, 5, 6), (1, 3, 4, 5, 6, 7),
        ))
        every = tuple((side, (1, 2)) for side in range(8))
        self.assertEqual(settings(eight, every), (
            (0, 1, 2, 3, 4), (0, 1, 2, 3, 7), (0, 1, 2, 6, 7), (0, 1, 5, 6, 7), (0, 4, 5, 6, 7), (1, 2, 3, 4, 5),
            (2, 3, 4, 5, 6), (3, 4, 5, 6, 7),
        ))
        self.assertEqual(settings(eight, [(side, (1, 3)) for side in (0, 1, 2, 3, 4, 0, 1, 2)]), (tuple(range(8)),))

    def test_all(self):
        counts = {}
        for told, some in cases():
            found = settings(told, some)
            is_new_tuple(self, found)
            self.assertEqual(found, greatest_lots(told, some))
            counts[len(found) > 1] = counts.get(len(found) > 1, 0) + 1
            self.assertEqual(found == (tuple(range(len(some))),), slide_ins(told, some) is not None)
        self.assertGreater(min(counts.values()), 40)

    def test_sides_alone_count(self):
        for told, some in cases():
            moved = tuple((side, ratio(value(spot) / 3)) for side, spot in some)
            self.assertEqual(settings(told, moved), settings(told, some))

    def test_great_numbers(self):
        told = Work([row(0, 0), row(GREAT, 1), row(1, GREAT + 2)])
        some = ((2, ratio("1/3")), (1, (1, GREAT)), (0, (GREAT - 1, GREAT)), (0, (1, 2)))
        self.assertEqual(settings(told, some), ((0, 2, 3), (1, 2, 3), (0, 1)))

    def test_refuses(self):
        refuses_stops(self, lambda some: settings(work(TRIANGLE), some))


class FewestBehind(unittest.TestCase):

    def test_by_hand(self):
        self.assertEqual(fewest_behind(work(BOX), ()), 0)
        self.assertEqual(fewest_behind(work(BOX), stops("0:1/2 1:1/2 2:1/2")), 0)
        self.assertEqual(fewest_behind(work(BOX), stops(ROUND_BOX)), 1)
        self.assertEqual(fewest_behind(work(BOX), stops(DOUBLE_BOX)), 2)
        self.assertEqual(fewest_behind(work(EIGHT), [(side, (1, 2)) for side in range(8)]), 3)
        self.assertEqual(fewest_behind(work(TRIANGLE), stops(ROUND_THREE + " 0:1/3 1:1/3 2:1/3")), 2)

    def test_all(self):
        seen = set()
        for told, some in cases():
            found = fewest_behind(told, some)
            self.assertEqual(found, len(some) - max(len(lot) for lot in first_lots(told, some)))
            self.assertLessEqual(2 * found, len(some))
            seen.add(found)
        self.assertTrue({0, 1, 2} <= seen)

    def test_refuses(self):
        refuses_stops(self, lambda some: fewest_behind(work(TRIANGLE), some))


class SettingSlides(unittest.TestCase):

    def test_by_hand(self):
        box = work(BOX)
        self.assertEqual(setting_slides(box, stops(ROUND_BOX), ()), ("all",))
        self.assertEqual(setting_slides(box, stops(ROUND_BOX), []), ("all",))
        self.assertEqual(setting_slides(box, (), ()), ("all",))
        self.assertEqual(setting_slides(box, stops(ROUND_BOX), [0, 2]), ("line", row("1 0")))
        self.assertEqual(setting_slides(box, stops(ROUND_BOX), (0, 2, 3)), ("ray", row("-1 0")))
        self.assertEqual(setting_slides(box, stops(ROUND_BOX), (0, 1)), ("wedge", row("0 -1"), row("1 0")))
        self.assertIsNone(setting_slides(box, stops(ROUND_BOX), (0, 1, 2, 3)))

    def test_all(self):
        for told, some in list(cases())[::4]:
            for size in range(len(some) + 1):
                for lot in list(combinations(range(len(some)), size))[::3]:
                    found = setting_slides(told, some, lot)
                    is_new_tuple(self, found)
                    self.assertEqual(found, slide_ins(told, [some[at] for at in lot]))
                    self.assertEqual(found is not None, lets_some(told, some, lot))

    def test_refuses(self):
        refuses_stops(self, lambda some: setting_slides(work(TRIANGLE), some, None))
        wrong = NO_SEQUENCES + (Alike(), (1, 0), (0, 0), (0, 1, 1), (3,), (-1, 0), (0, 3), (False,), (0, True), (1.0,),
                                ("0",), (None,), ((0, 1),), [2, 1], [0, 1, 2, 3])
        for lot in wrong:
            refused(self, BadLot, lambda: setting_slides(work(TRIANGLE), stops(ROUND_THREE), lot))
        refused(self, BadLot, lambda: setting_slides(work(SKEW), (), (0,)))
        self.assertIsNone(setting_slides(work(TRIANGLE), stops(ROUND_THREE), (0, 1, 2)))
        self.assertIsNotNone(setting_slides(work(SQUARE), stops(ROUND_THREE), [0, 1, 2]))


if __name__ == "__main__":
    unittest.main()
