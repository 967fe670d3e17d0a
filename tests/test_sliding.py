"""[9.1], [9.2]: works that are slid in along one direction or stuck, and the judge."""

import unittest
from fractions import Fraction

from firmstops.errors import BadDirection, BadFar
from firmstops.freely import in_shape
from firmstops.sliding import SlidIn, Stuck, slid_fault, slid_from, slid_or_stuck, slide_ins
from firmstops.works import Work

from helpers import BOX, EIGHT, NO_DIRECTIONS, NO_RATIOS, NO_SEQUENCES, SQUARE, TRIANGLE
from helpers import hold_cases, is_new_tuple, is_plain, is_result, no_numbers, product, ratio, refused
from helpers import refuses_stops, row, some_stops, some_works, stops, value, values, weighted, work

GREAT = 10 ** 280 + 3
ALL_ROUND = tuple(row(x, y) for x in range(-3, 4) for y in range(-3, 4) if (x, y) != (0, 0))


def normals_of(told, some):
    return [told.normals[side] for side, _ in some]


def cases():
    return list(hold_cases()) + [(told, some_stops(told, 460, 8)) for told in some_works()]


class SlidFrom(unittest.TestCase):

    def test_by_hand(self):
        told = work(BOX)
        self.assertEqual(slid_from(told, row("1 2"), ratio(3)), work("-3,-6 1,-6 1,-4 -3,-4"))
        self.assertEqual(slid_from(told, [ratio(0), ratio("-1/2")], ratio("1/2")), told.shifted(row("0 1/4")))
        self.assertEqual(slid_from(told, row("5 7"), ratio(0)), told)
        self.assertIsInstance(slid_from(told, row("1 2"), ratio(3)), Work)
        found = slid_from(told, row(GREAT, Fraction(1, GREAT)), ratio(GREAT))
        self.assertEqual(found, told.shifted(row(-GREAT ** 2, -1)))

    def test_strictly_within(self):
        # A stop is never strictly within the coming work exactly if its normal is not along the direction.
        for told, some in list(hold_cases(4))[::3]:
            for stop in some:
                place = told.place_at(*stop)
                for direction in ALL_ROUND[::3]:
                    over = any(slid_from(told, direction, ratio(Fraction(1, 2 ** k))).is_within(place)
                               for k in (0, 3, 9, 700))
                    self.assertEqual(over, product(told.normals[stop[0]], direction) > 0)

    def test_refuses(self):
        told = work(BOX)
        for thing in NO_DIRECTIONS:
            refused(self, BadDirection, lambda: slid_from(told, thing, None))
        for thing in NO_RATIOS + ((-1, 1), (-1, GREAT)):
            refused(self, BadFar, lambda: slid_from(told, row("1 2"), thing))


class SlideIns(unittest.TestCase):

    def test_by_hand(self):
        told = work(BOX)
        self.assertEqual(slide_ins(told, ()), ("all",))
        self.assertEqual(slide_ins(told, stops("0:1/4")), ("half", row("-1 0"), row("1 0")))
        self.assertEqual(slide_ins(told, stops("0:1/4 0:3/4")), ("half", row("-1 0"), row("1 0")))
        self.assertEqual(slide_ins(told, [[0, (1, 2)], [1, (1, 2)]]), ("wedge", row("0 -1"), row("1 0")))
        self.assertEqual(slide_ins(told, stops("0:1/2 2:1/2")), ("line", row("1 0")))
        self.assertEqual(slide_ins(told, stops("0:1/2 2:1/2 3:1/2")), ("ray", row("-1 0")))
        self.assertIsNone(slide_ins(told, stops("0:1/2 1:1/2 2:1/2 3:1/2")))
        self.assertIsNone(slide_ins(work(TRIANGLE), stops("0:1/2 1:1/2 2:1/2")))

    def test_shapes(self):
        kinds = set()
        for told, some in cases():
            found = slide_ins(told, some)
            is_new_tuple(self, found)
            kinds.add(None if found is None else found[0])
            normals = normals_of(told, some)
            along = [row(-value(y), value(x)) for x, y in normals]
            tries = ALL_ROUND + tuple(normals) + tuple(along) + (() if found is None else found[1:])
            for direction in tries:
                lets = all(product(normal, direction) <= 0 for normal in normals)
                self.assertEqual(in_shape(found, direction), lets)
        self.assertEqual(kinds, {"all", "half", "wedge", "line", "ray", None})

    def test_spots_do_not_matter(self):
        for told, some in cases():
            moved = tuple((side, ratio(value(spot) / 2)) for side, spot in some)
            self.assertEqual(slide_ins(told, moved), slide_ins(told, some))

    def test_refuses(self):
        refuses_stops(self, lambda some: slide_ins(work(TRIANGLE), some))


class SlidOrStuck(unittest.TestCase):

    def test_by_hand(self):
        told = work(BOX)
        self.assertEqual(slid_or_stuck(told, stops("0:1/2 2:1/2 3:1/2")), SlidIn(row("-1 0")))
        self.assertEqual(slid_or_stuck(work(TRIANGLE), stops("0:1/2 1:1/2 2:1/2")), Stuck((0, 1, 2), row("1 1 1")))
        found = slid_or_stuck(told, stops("0:1/2 1:1/2 2:1/2 3:1/2"))
        self.assertEqual(found.numbers, (0, 1, 2, 3))
        self.assertIsNone(slid_fault(told, stops("0:1/2 1:1/2 2:1/2 3:1/2"), found))
        self.assertIsInstance(slid_or_stuck(told, ()), SlidIn)
        self.assertEqual(slid_or_stuck(told, [[3, (1, 2)], [0, (1, 2)], [2, (1, 2)]]), SlidIn(row("-1 0")))

    def test_results(self):
        kinds = {}
        for told, some in cases():
            found = slid_or_stuck(told, some)
            is_new_tuple(self, tuple(vars(found).values()))
            self.assertIsNone(slid_fault(told, some, found))
            normals = normals_of(told, some)
            self.assertEqual(isinstance(found, SlidIn), slide_ins(told, some) is not None)
            if isinstance(found, SlidIn):
                self.assertTrue(is_plain(found.direction))
                self.assertTrue(all(product(normal, found.direction) <= 0 for normal in normals))
                kinds["in"] = kinds.get("in", 0) + 1
            else:
                self.assertIn(len(found.numbers), (3, 4))
                self.assertEqual(found.numbers, tuple(sorted(set(found.numbers))))
                self.assertTrue(all(value(one) > 0 for one in found.amounts))
                lot = [normals[at] for at in found.numbers]
                self.assertEqual(weighted(lot, found.amounts), (0, 0))
                (a, b), turned = values(lot[0]), [values(one) for one in lot]
                self.assertTrue(any(a * d - b * c != 0 for c, d in turned))
                kinds[len(found.numbers)] = kinds.get(len(found.numbers), 0) + 1
        self.assertEqual(set(kinds), {"in", 3, 4})

    def test_four_in_any_order(self):
        for text in ("0:1/2 2:1/2 1:1/2 3:1/2", "3:1/2 0:1/2 1:1/2 2:1/2", "1:1/2 0:1/2 0:1/3 2:1/2 2:1/3 3:1/2"):
            for told in (work(BOX), work(SQUARE)):
                found = slid_or_stuck(told, stops(text))
                self.assertEqual(len(found.numbers), 4)
                self.assertIsNone(slid_fault(told, stops(text), found))

    def test_great_numbers(self):
        told = Work([row(0, 0), row(GREAT, 1), row(1, GREAT + 2)])
        some = stops("2:1/2 1:1/2 0:1/2")
        found = slid_or_stuck(told, some)
        self.assertIsInstance(found, Stuck)
        self.assertIsNone(slid_fault(told, some, found))
        self.assertIsNone(slid_fault(told, some[:2], slid_or_stuck(told, some[:2])))

    def test_refuses(self):
        refuses_stops(self, lambda some: slid_or_stuck(work(TRIANGLE), some))


class Judge(unittest.TestCase):

    def test_slid_in(self):
        told, some = work(BOX), stops("0:1/2 2:1/2 3:1/2")
        self.assertIsNone(slid_fault(told, some, SlidIn(row("-1 0"))))
        self.assertIsNone(slid_fault(told, some, SlidIn(list(row("-1 0")))))
        for thing in NO_DIRECTIONS + (row("-2 0"), row("-1/2 0"), row("2 4"), row("3/2 1")):
            self.assertEqual(slid_fault(told, some, SlidIn(thing)), "direction")
        for text in ("1 0", "0 1", "0 -1", "-5 1"):
            self.assertEqual(slid_fault(told, some, SlidIn(row(text))), "barred")
        self.assertEqual(slid_fault(told, (), SlidIn(row("2 0"))), "direction")
        self.assertIsNone(slid_fault(told, (), SlidIn(row("7 3"))))

    def test_stuck(self):
        told, some = work(BOX), stops("0:1/2 1:1/2 2:1/2 3:1/2 0:1/3")
        self.assertIsNone(slid_fault(told, some, Stuck((0, 1, 2, 3), row("1 1 1 1"))))
        self.assertIsNone(slid_fault(told, some, Stuck([1, 2, 3, 4], list(row("1 2 1 2")))))
        self.assertIsNone(slid_fault(told, some, Stuck((0, 1, 2, 3, 4), row("1/2 1/3 3/2 1/3 1"))))
        wrong = NO_SEQUENCES + ((), (1, 0, 2, 3), (0, 0, 2), (0, 1, 5), (-1, 0, 1), (False, 1, 2, 3), (0, True, 2),
                                (0, 1, 2, "3"), (0, 1.0, 2, 3), [3, 2, 1, 0])
        for thing in wrong:
            self.assertEqual(slid_fault(told, some, Stuck(thing, None)), "numbers")
        for thing in no_numbers(4) + [row("1 1 1 0"), row("1 -1 1 1"), row("1 1 1 1 1")]:
            self.assertEqual(slid_fault(told, some, Stuck((0, 1, 2, 3), thing)), "amounts")
        self.assertEqual(slid_fault(told, some, Stuck((0, 1, 2, 3), row("1 1 1 2"))), "balance")
        self.assertEqual(slid_fault(told, some, Stuck((0,), row("1"))), "balance")
        self.assertEqual(slid_fault(told, some, Stuck((0, 2), row("1 1"))), "line")
        self.assertEqual(slid_fault(told, some, Stuck((0, 2, 4), row("1 2 1"))), "line")
        self.assertEqual(slid_fault(told, (), Stuck((), ())), "numbers")

    def test_classes(self):
        is_result(self, SlidIn, {"direction": row("1 0")}, (None, [], row("0 1")))
        is_result(self, Stuck, {"numbers": (0, 1, 2), "amounts": row("1 1 1")}, (None, [], (0, 1)))

    def test_more_than_four(self):
        told, some = work(EIGHT), tuple((side, (1, 2)) for side in range(8))
        self.assertIsNone(slid_fault(told, some, Stuck(tuple(range(8)), row(*[1] * 8))))


if __name__ == "__main__":
    unittest.main()
