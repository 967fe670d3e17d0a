"""[5.5], [5.6]: clasps, their judge, and the widest swing."""

import unittest
from fractions import Fraction
from itertools import combinations

from firmstops.areas import Area, Empty, Point, Segment
from firmstops.centres import centres_at, centres_of
from firmstops.clasps import Clasp, clasp_fault, clasps_of, widest_swing
from firmstops.errors import BadWay
from firmstops.freely import free_slides
from firmstops.pushes import rows_of
from firmstops.works import Work

from helpers import BOX, EIGHT, NO_SEQUENCES, NO_WAYS, SQUARE, TRIANGLE
from helpers import are_past, hold_cases, is_new_tuple, is_plain, is_result, no_numbers, product, ratio, refused
from helpers import refuses_stops, row, some_stops, some_works, stops, turned_by, value, values, work

GREAT = 10 ** 290 + 1


def has_balance(normals):
    """Whether two or three normals have amounts above 0 with a sum of (0, 0) and no fewer of them have."""
    told = [values(one) for one in normals]
    turns = [a * d - b * c for (a, b), (c, d) in combinations(told, 2)]
    if len(told) == 2:
        (a, b), (c, d) = told
        return turns[0] == 0 and a * c + b * d < 0
    # Each normal is between the opposites of the two others.
    return all(one > 0 for one in (turns[0], -turns[1], turns[2])) or all(
        one < 0 for one in (turns[0], -turns[1], turns[2]))


def lots(told, some):
    normals = [told.normals[side] for side, _ in some]
    return [lot for many in (2, 3) for lot in combinations(range(len(some)), many)
            if has_balance([normals[at] for at in lot])]


class Clasps(unittest.TestCase):

    def test_the_example(self):
        told = work(TRIANGLE)
        found = list(clasps_of(told, stops("0:1/4 1:3/5 2:2/3")))
        self.assertEqual(found, [Clasp((0, 1, 2), row("1 1 1"), ratio(0), ratio(12))])
        found = list(clasps_of(told, [list(one) for one in stops("0:1/2 1:3/5 2:2/3")]))
        self.assertEqual(found, [Clasp((0, 1, 2), row("1 1 1"), ratio(4), ratio(12))])

    def test_by_hand(self):
        told = work("0,0 4,0 4,2 1,2")
        found = list(clasps_of(told, stops("2:1/3 0:1/4 1:1/2 3:1/2")))
        # Rows: (0, -3, -9), (0, 4, 4), (-2, 0, 2) and (2, -1, -5/2).
        self.assertEqual(found, [Clasp((0, 1), row("4 3"), ratio(-24), ratio(24)),
                                 Clasp((1, 2, 3), row("1 4 4"), ratio(2), ratio(32))])
        for text in ("", "0:1/2", "0:1/2 0:1/4", "0:1/2 1:1/2 0:1/4", "0:1/2 1:1/2"):
            self.assertEqual(list(clasps_of(work(BOX), stops(text))), [])

    def test_all_clasps(self):
        many = {2: 0, 3: 0}
        for told, some in list(hold_cases()) + [(told, some_stops(told, 230, 8)) for told in some_works()]:
            found = list(clasps_of(told, some))
            self.assertEqual([clasp.indices for clasp in found], lots(told, some))
            if free_slides(told, some) is None:
                self.assertTrue(found)
            lines = rows_of(told, some)
            for clasp in found:
                many[len(clasp.indices)] += 1
                is_new_tuple(self, tuple(vars(clasp).values()))
                self.is_right(told, some, lines, clasp)
                self.assertIsNone(clasp_fault(told, some, clasp))
        self.assertGreater(min(many.values()), 30)

    def is_right(self, told, some, lines, clasp):
        self.assertTrue(is_plain(clasp.amounts))
        amounts = values(clasp.amounts)
        self.assertTrue(all(one > 0 for one in amounts))
        chosen = [values(lines[at]) for at in clasp.indices]
        sums = [sum(by * line[k] for by, line in zip(amounts, chosen)) for k in range(3)]
        self.assertEqual(sums, [0, 0, value(clasp.twist)])
        self.assertGreater(value(clasp.span), 0)
        for place in told.corners + (told.middle, row("7 -9/2")):
            span = sum(by * value(told.value_at(some[at][0], place)) for by, at in zip(amounts, clasp.indices))
            self.assertEqual(span, value(clasp.span))

    def test_great_numbers(self):
        told = Work([row(0, 0), row(GREAT, 0), row(GREAT, 1), row(0, 1)])
        found = list(clasps_of(told, [(0, ratio(Fraction(1, GREAT))), (2, ratio("1/2"))]))
        self.assertEqual(found, [Clasp((0, 1), row("1 1"), ratio(Fraction(2 - GREAT, 2) * GREAT), ratio(GREAT))])

    def test_class(self):
        is_result(self, Clasp, {"indices": [0, 1], "amounts": ["x"], "twist": None, "span": {}}, (7, (0, 1), "y"))

    def test_stops_come_first(self):
        told = work(TRIANGLE)
        refuses_stops(self, lambda some: list(clasps_of(told, some)), lambda some: widest_swing(told, some, None))


class Judge(unittest.TestCase):

    def word(self, expected, indices, amounts, twist=ratio(0), span=ratio(12), text="0:1/4 1:3/5 2:2/3", told=TRIANGLE):
        self.assertEqual(clasp_fault(work(told), stops(text), Clasp(indices, amounts, twist, span)), expected)

    def test_right_clasps(self):
        self.word(None, (0, 1, 2), row("1 1 1"))
        self.word(None, [0, 1, 2], list(row("1 1 1")))
        self.word(None, (1, 2, 3), row("1 1 1"), text="0:1/8 0:1/4 1:3/5 2:2/3")
        self.word(None, (0, 2), row("1 1"), ratio(-8), ratio(8), "0:1/4 1:1/2 2:1/4", BOX)

    def test_indices(self):
        for thing in NO_SEQUENCES + ((), (0,), (0, 1, 2, 3), (1, 0), (0, 0), (0, 0, 1), (0, 2, 1), (0, 1, 3), (-1, 0, 1),
                                     (0, True), (False, 1, 2), (0, 1.0), (None, None), ("0", "1"), {0, 1}, (0, 10 ** 30)):
            self.word("indices", thing, None)
        self.word("indices", (0, 1, 2), row("1 1 1"), text="0:1/4 1:3/5")
        self.word("indices", (0, 1, 2, 3), row("1 1 2 2"), text="0:1/8 0:1/4 1:3/5 2:2/3")
        self.word("indices", (0, 1), row("1 1"), text="")

    def test_amounts(self):
        for amounts in no_numbers(3) + [row("1 0 1"), row("1 1 -1"), row("0 0 0"), row("1 1")]:
            self.word("amounts", (0, 1, 2), amounts)
        self.word("amounts", (0, 1), row("1 1 1"))

    def test_plain(self):
        for amounts in (row("2 2 2"), row("1/2 1/2 1/2"), row("1/2 1 1"), row("2 4 6"), row(GREAT, GREAT, GREAT)):
            self.word("plain", (0, 1, 2), amounts)
        self.word("plain", (0, 1), row("2 4"))

    def test_balance(self):
        for amounts in (row("1 1 2"), row("3 1 1"), row(GREAT, GREAT, GREAT - 1)):
            self.word("balance", (0, 1, 2), amounts)
        self.word("balance", (0, 1), row("1 1"), ratio(4), ratio(12))
        self.word("balance", (0, 1), row("1 1"), text="0:1/2 0:1/4")

    def test_least(self):
        self.word("least", (0, 1, 2), row("1 1 2"), text="0:1/4 0:1/2 2:1/2", told=BOX)
        self.word("least", (0, 1, 2), row("1 2 1"), text="0:1/4 2:1/4 0:1/2", told=BOX)
        self.word("least", (0, 1, 2), row("2 1 1"), text="0:1/4 2:1/2 2:1/2", told=BOX)

    def test_twist(self):
        for twist in (ratio(1), ratio(-1), ratio(Fraction(1, GREAT)), None, 0, [0, 1]):
            self.word("twist", (0, 1, 2), row("1 1 1"), twist)
            self.word("twist", (0, 1, 2), row("1 1 1"), twist, None)
        self.word("twist", (1, 2, 3), row("1 1 1"), ratio(2), text="0:1/8 0:1/4 1:3/5 2:2/3")

    def test_span(self):
        for span in (ratio(11), ratio(-12), ratio(12 + Fraction(1, GREAT)), None, 12, [12, 1]):
            self.word("span", (0, 1, 2), row("1 1 1"), ratio(0), span)


class Widest(unittest.TestCase):

    def test_by_hand(self):
        told, some = work(TRIANGLE), stops("0:1/2 1:3/5 2:2/3")
        self.assertEqual(widest_swing(told, some, "left"), ratio("1/3"))
        self.assertEqual(widest_swing(told, [list(one) for one in some], "right"), ratio(0))
        for way in ("left", "right"):
            self.assertEqual(widest_swing(told, stops("0:1/4 1:3/5 2:2/3"), way), ratio(0))
            for text in ("", "0:1/2", "0:1/4 1:1/2"):
                self.assertIsNone(widest_swing(told, stops(text), way))
        box = work(BOX)
        self.assertEqual(widest_swing(box, stops("0:3/4 2:3/4"), "left"), ratio(1))
        self.assertEqual(widest_swing(box, stops("0:3/4 2:3/4"), "right"), ratio(0))
        self.assertEqual(widest_swing(box, stops("0:1/4 2:1/4"), "right"), ratio(1))
        self.assertEqual(widest_swing(box, stops("0:1/2 2:3/4 0:3/4"), "left"), ratio("1/2"))

    def test_least_quotients(self):
        for told, some in hold_cases():
            clasps = list(clasps_of(told, some))
            for way, sign in (("left", 1), ("right", -1)):
                found = widest_swing(told, some, way)
                if not clasps:
                    self.assertIsNone(found)
                    continue
                least = min(sign * value(clasp.twist) / value(clasp.span) for clasp in clasps)
                self.assertEqual(found, ratio(max(least, 0)))
                is_new_tuple(self, found)

    def test_what_the_widest_swing_tells(self):
        wide = 0
        for told, some in hold_cases():
            if free_slides(told, some) is not None:
                continue
            for way in ("left", "right"):
                widest = value(widest_swing(told, some, way))
                self.assertEqual(isinstance(centres_of(told, some, way), Area), widest > 0)
                if widest > 0:
                    wide += 1
                    self.assertIsInstance(centres_at(told, some, way, ratio(widest)), (Point, Segment))
                    self.assertIsInstance(centres_at(told, some, way, ratio(widest * Fraction(999, 1000))), Area)
                beyond = ratio(widest + Fraction(1, 10 ** 40))
                self.assertEqual(centres_at(told, some, way, beyond), Empty())
        self.assertGreater(wide, 10)

    def test_placed_works(self):
        # Up to the widest swing a slab of a slide's width may be shifted so that no stop is past its side.
        told, some = work(BOX), stops("0:3/4 2:3/4")
        self.assertIsNotNone(free_slides(told, some))
        for text, fits in (("1/2", True), ("1", True), ("11/10", False)):
            shifts = [Fraction(k, 20) for k in range(-200, 201)]
            corners = [turned_by(corner, row("0 0"), "left", ratio(text)) for corner in told.corners]
            found = any(not are_past(told, some, [(x + by, y) for x, y in corners]) for by in shifts)
            self.assertEqual(found, fits, text)

    def test_refuses(self):
        told = work(EIGHT)
        for kept in ((), some_stops(told, 231, 4), some_stops(work(SQUARE), 231, 3)):
            for way in NO_WAYS:
                refused(self, BadWay, lambda: widest_swing(told, kept, way))

    def test_products_with_motions(self):
        # The twist is what tells a clasp's stops to bar a turn: the sum of amount times rate about any place.
        for told, some in hold_cases(4):
            lines = rows_of(told, some)
            for clasp in clasps_of(told, some):
                motion = row("5 -7/3 1")
                chosen = [lines[at] for at in clasp.indices]
                total = sum(by * product(line, motion) for by, line in zip(values(clasp.amounts), chosen))
                self.assertEqual(total, value(clasp.twist))


if __name__ == "__main__":
    unittest.main()
