"""[4.5], [4.6], [4.7]: shapes, free slides, free edges, firming and keeping spots."""

import random
import unittest
from fractions import Fraction

from firmstops.barring import is_free
from firmstops.errors import BadDirection, BadStop, LowRank, NoSide, NoStop
from firmstops.freely import cone_shape, firming_spots, free_edges, free_slides, in_shape, keeping_spots
from firmstops.pushes import row_on, rows_of
from firmstops.stiemke import free_direction

from helpers import BOX, EIGHT, NO_RATIOS, NO_SEQUENCES, SQUARE, TRIANGLE
from helpers import couples, is_new_tuple, is_plain, product, rank, ratio, row, rows, some_stops, some_works, stops
from helpers import value, values, work

HALF = ratio("1/2")
GREAT = 10 ** 250 + 1
NO_SIDES = (-1, 3, True, False, None, 1.0, "0", (0, 1))


def around(many):
    """Directions all around, and some nearly alike."""
    told = []
    for x in range(-many, many + 1):
        for y in range(-many, many + 1):
            if (x, y) != (0, 0):
                told.append(row(x, y))
    return told + [row(GREAT, 1), row(GREAT, -1), row(-1, GREAT), row(1, GREAT), row(Fraction(1, GREAT), 0)]


def first_above(direction):
    lead = [one[0] for one in direction if one[0] != 0][0]
    return lead > 0


def cross(one, other):
    (a, b), (c, d) = values(one), values(other)
    return a * d - b * c


class Shapes(unittest.TestCase):

    def test_by_hand(self):
        self.assertEqual(cone_shape([]), ("all",))
        self.assertEqual(cone_shape(()), ("all",))
        self.assertEqual(cone_shape(couples("0,1")), ("half", row("1 0"), row("-1 0")))
        self.assertEqual(cone_shape(couples("0,-1 0,-1/2")), ("half", row("-1 0"), row("1 0")))
        self.assertEqual(cone_shape(couples("2,0 1/3,0 5,0")), ("half", row("0 -1"), row("0 1")))
        self.assertEqual(cone_shape(couples("1,0 0,1")), ("wedge", row("1 0"), row("0 1")))
        self.assertEqual(cone_shape(couples("0,1 1,0 1,1 3,1")), ("wedge", row("1 0"), row("0 1")))
        self.assertEqual(cone_shape(couples("1,1 -1,1")), ("wedge", row("1 1"), row("-1 1")))
        self.assertEqual(cone_shape(couples("0,1 -1,1/10")), ("wedge", row("1 10"), row("-1 0")))
        self.assertEqual(cone_shape(couples("0,1 1,1/10")), ("wedge", row("1 0"), row("-1 10")))
        self.assertEqual(cone_shape(couples("0,1 0,-1")), ("line", row("1 0")))
        self.assertEqual(cone_shape(couples("3,0 -1,0 -2,0")), ("line", row("0 1")))
        self.assertEqual(cone_shape(couples("2,3 -4,-6")), ("line", row("3 -2")))
        self.assertEqual(cone_shape(couples("-2,3 2,-3")), ("line", row("3 2")))
        self.assertEqual(cone_shape(couples("0,1 0,-1 1,0")), ("ray", row("1 0")))
        self.assertEqual(cone_shape(couples("0,1 0,-1 -1,5")), ("ray", row("-1 0")))
        self.assertEqual(cone_shape(couples("1,2 -1,-2 1,0")), ("ray", row("2 -1")))
        self.assertIsNone(cone_shape(couples("1,0 0,1 -1,-1")))
        self.assertIsNone(cone_shape(couples("1,0 -1,0 0,1 0,-1")))
        self.assertIsNone(cone_shape(couples("1,0 -1,1 -1,-2")))

    def test_lists_stand_for_tuples(self):
        for normals in (couples("0,1"), couples("1,2 3,1"), couples("0,1 0,-1")):
            found = cone_shape([list(one) for one in normals])
            self.assertEqual(found, cone_shape(normals))
            is_new_tuple(self, found)

    def test_great_numbers(self):
        normals = (row(1, GREAT), row(-1, GREAT))
        self.assertEqual(cone_shape(normals), ("wedge", row(GREAT, 1), row(-GREAT, 1)))
        normals = (row(0, 1), row(0, -1), row(Fraction(1, GREAT), 7))
        self.assertEqual(cone_shape(normals), ("ray", row("1 0")))
        self.assertIsNone(cone_shape((row(0, 1), row(1, Fraction(-1, GREAT)), row(-1, Fraction(-1, GREAT + 1)))))

    def random_normals(self, seed, rounds):
        chance = random.Random(seed)
        found = []
        for _ in range(rounds):
            many = chance.choice((0, 1, 2, 2, 3, 3, 4, 24))
            kept = []
            while len(kept) < many:
                one = (chance.randrange(-2, 3), chance.randrange(-2, 3))
                if any(one):
                    kept.append(row(*one))
            if chance.randrange(3) == 0 and kept:
                kept.append(row(*[-2 * a for a in values(kept[0])]))
            found.append(tuple(kept[:24]))
        return found

    def test_shapes(self):
        kinds = {}
        tries = around(4)
        for normals in self.random_normals(101, 300):
            shape = cone_shape(normals)
            kind = None if shape is None else shape[0]
            kinds[kind] = kinds.get(kind, 0) + 1
            self.is_right_form(shape)
            for direction in tries:
                let = all(product(normal, direction) >= 0 for normal in normals)
                self.assertIs(in_shape(shape, direction), let)
                self.assertIs(in_shape(shape, list(direction)), let)
        self.assertEqual(set(kinds), {"all", "half", "wedge", "line", "ray", None})

    def is_right_form(self, shape):
        if shape is None:
            return
        self.assertIsInstance(shape, tuple)
        self.assertEqual(len(shape), {"all": 1, "half": 3, "wedge": 3, "line": 2, "ray": 2}[shape[0]])
        for direction in shape[1:]:
            is_new_tuple(self, direction)
            self.assertTrue(is_plain(direction))
        if shape[0] == "half":
            self.assertEqual(shape[2], row(*[-one for one in values(shape[1])]))
        if shape[0] == "wedge":
            self.assertGreater(cross(shape[1], shape[2]), 0)
        if shape[0] == "line":
            self.assertTrue(first_above(shape[1]))

    def test_in_shape(self):
        half = ("half", row("1 0"), row("-1 0"))
        wedge = ("wedge", row("1 0"), row("1 1"))
        line, ray = ("line", row("1 2")), ("ray", row("1 2"))
        self.assertEqual([in_shape(half, one) for one in couples("5,0 -1/2,0 0,1 3,-1 0,-1")],
                         [True, True, True, False, False])
        self.assertEqual([in_shape(wedge, one) for one in couples("5,0 2,2 2,1 1,2 2,-1 -1,0 -1,-1 -2,-1")],
                         [True, True, True, False, False, False, False, False])
        self.assertEqual([in_shape(line, one) for one in couples("2,4 -1/2,-1 2,1 -2,1")], [True, True, False, False])
        self.assertEqual([in_shape(ray, one) for one in couples("2,4 -1/2,-1 2,1 -2,1")], [True, False, False, False])
        self.assertTrue(all(in_shape(("all",), one) for one in around(1)))
        self.assertFalse(any(in_shape(None, one) for one in around(1)))

    def test_in_shape_refuses(self):
        wrong = NO_SEQUENCES + ((), row("1"), row("1 2 3"), row("0 0"), list(row("0 0")), (1, 2)) + tuple(
            (thing, ratio(1)) for thing in NO_RATIOS)
        for shape in (None, ("all",), ("half", row("1 0"), row("-1 0")), ("wedge", row("1 0"), row("0 1")),
                      ("line", row("1 0")), ("ray", row("1 0"))):
            for thing in wrong:
                with self.assertRaises(BadDirection):
                    in_shape(shape, thing)


class Free(unittest.TestCase):

    def test_free_slides(self):
        self.assertEqual(free_slides(work(BOX), ()), ("all",))
        self.assertEqual(free_slides(work(BOX), stops("0:1/4 0:3/4")), ("half", row("1 0"), row("-1 0")))
        self.assertEqual(free_slides(work(BOX), stops("0:1/4 2:3/4")), ("line", row("1 0")))
        self.assertEqual(free_slides(work(BOX), stops("0:1/4 2:3/4 3:1/2")), ("ray", row("1 0")))
        self.assertEqual(free_slides(work(TRIANGLE), stops("0:1/4 2:3/4")), ("wedge", row("1 0"), row("0 1")))
        self.assertIsNone(free_slides(work(TRIANGLE), stops("0:1/4 1:1/2 2:3/4")))

    def test_free_slides_are_free_motions(self):
        for told in some_works():
            for many in range(1, 6):
                some = some_stops(told, 110 + many, many)
                shape = free_slides(told, [list(one) for one in some])
                for x, y in around(2):
                    self.assertIs(in_shape(shape, (x, y)), is_free(told, some, (x, y, ratio(0))))
                other = tuple((side, ratio("1/97")) for side, _ in some)
                self.assertEqual(free_slides(told, other), shape)

    def test_free_edges(self):
        told, some = work(TRIANGLE), stops("0:1/4 1:3/5 2:2/3")
        with self.assertRaises(LowRank) as caught:
            free_edges(told, some)
        self.assertEqual(caught.exception.rank, 2)
        self.assertEqual(free_edges(told, stops("0:1/2 1:3/5 2:2/3")), rows("1 -2 1", "1 -1 1", "7 -6 3"))
        for told in some_works():
            for many in range(3, 9):
                some = some_stops(told, 120 + many, many)
                lines = rows_of(told, some)
                if rank(lines) < 3:
                    continue
                found = free_edges(told, [list(one) for one in some])
                is_new_tuple(self, found)
                self.assertEqual([values(one) for one in found], sorted(values(one) for one in found))
                self.assertEqual(found == (), free_direction(lines) is None)
                for edge in found:
                    self.assertTrue(is_plain(edge))
                    self.assertTrue(is_free(told, some, edge))
                    self.assertEqual(rank([line for line in lines if product(line, edge) == 0]), 2)

    def test_low_rank(self):
        for text, many in (("", 0), ("0:1/2", 1), ("0:1/2 0:1/2", 1), ("0:1/2 2:1/2", 1), ("0:1/4 0:1/2 2:1/3", 2)):
            with self.assertRaises(LowRank) as caught:
                free_edges(work(SQUARE), stops(text))
            self.assertEqual(caught.exception.rank, many)

    def test_bad_stops(self):
        told = work(TRIANGLE)
        asks = (lambda some: free_slides(told, some), lambda some: free_edges(told, some),
                lambda some: firming_spots(told, some, None), lambda some: keeping_spots(told, some, None))
        for some, index, what in ((None, 0, "many"), ([(0, HALF)] * 9, 0, "many"), ([(0, HALF), 7], 1, "stop"),
                                  ([(3, HALF)], 0, "side"), ([(0, HALF), (0, HALF), (1, (1, 1))], 2, "spot")):
            for ask in asks:
                with self.assertRaises(BadStop) as caught:
                    ask(some)
                self.assertEqual((caught.exception.index, caught.exception.what), (index, what))


class Spots(unittest.TestCase):

    def is_firm_with(self, told, some, side, spot):
        return free_direction(rows_of(told, some) + (row_on(told, side, spot),)) is None

    def is_right(self, told, some, side, found):
        tries = [Fraction(k, 24) for k in range(1, 24)]
        if found is None:
            self.assertFalse(any(self.is_firm_with(told, some, side, ratio(spot)) for spot in tries))
            return
        is_new_tuple(self, found)
        low, high = value(found[0]), value(found[1])
        self.assertTrue(0 <= low < high <= 1)
        tiny = (high - low) / 10 ** 60
        for spot in tries + [low, high, low + tiny, high - tiny, low - tiny, high + tiny, (low + high) / 2]:
            if 0 < spot < 1:
                self.assertEqual(self.is_firm_with(told, some, side, ratio(spot)), low < spot < high)

    def test_by_hand(self):
        told = work(BOX)
        some = stops("0:1/2 1:1/2 2:1/4")
        self.assertIsNone(firming_spots(told, some, 0))
        self.assertEqual(firming_spots(told, some, 3), row("1/2 1"))
        self.assertEqual(firming_spots(told, stops("0:1/2 1:1/2 2:3/4"), 3), row("0 1/2"))
        self.assertIsNone(firming_spots(told, stops("0:1/2 1:1/2 2:1/2"), 3))
        triangle = work(TRIANGLE)
        self.assertEqual(firming_spots(triangle, stops("0:1/2 1:3/5 2:2/3"), 0), row("0 1/4"))
        self.assertIsNone(firming_spots(triangle, stops("0:1/4 1:3/5 2:2/3"), 0))

    def test_firm_without_it(self):
        told = work(BOX)
        some = stops("0:1/2 1:1/2 2:1/4 3:3/4")
        for side in range(4):
            self.assertEqual(firming_spots(told, some, side), row("0 1"))
        self.assertEqual(firming_spots(told, some + some, 2), row("0 1"))

    def test_low_rank(self):
        for text in ("", "0:1/2", "0:1/2 2:1/2", "0:1/2 0:1/4 2:1/2", "0:1/2 1:1/2 2:1/2 3:1/2"):
            for side in range(4):
                self.assertIsNone(firming_spots(work(BOX), stops(text), side))

    def test_a_ninth_stop(self):
        triangle = work(TRIANGLE)
        some = stops("0:1/2 1:3/5 2:2/3")
        eight = some + some + some[:2]
        self.assertEqual(firming_spots(triangle, eight, 0), row("0 1/4"))
        self.assertEqual(firming_spots(triangle, list(eight), 0), row("0 1/4"))

    def test_spots(self):
        kinds = {}
        for told in some_works() + (work(EIGHT),):
            for seed in range(6):
                some = some_stops(told, 130 + seed, 3 + seed % 4)
                for side in range(len(told)):
                    found = firming_spots(told, [list(one) for one in some], side)
                    self.is_right(told, some, side, found)
                    kind = None if found is None else (found[0] == ratio(0), found[1] == ratio(1))
                    kinds[kind] = kinds.get(kind, 0) + 1
        for kind in (None, (True, True), (True, False), (False, True), (False, False)):
            self.assertGreater(kinds.get(kind, 0), 3, kinds)

    def test_no_side(self):
        for some in ((), stops("0:1/2"), stops("0:1/2 1:1/2 2:1/4"), stops("0:1/2 1:1/3 2:1/4 2:1/2")):
            for side in NO_SIDES:
                with self.assertRaises(NoSide) as caught:
                    firming_spots(work(TRIANGLE), some, side)
                self.assertIs(caught.exception.side, side)

    def test_keeping(self):
        told = work(BOX)
        some = stops("0:1/2 1:1/2 2:1/4 3:3/4")
        self.assertEqual(keeping_spots(told, some, 3), row("1/2 1"))
        self.assertEqual(keeping_spots(told, [list(one) for one in some], 2), row("0 1/2"))
        self.assertEqual(keeping_spots(told, some[:3] + stops("3:1/4"), 3), row("1/2 1"))
        self.assertIsNone(keeping_spots(told, stops("0:1/2 1:1/2 2:1/2 3:1/4"), 3))
        self.assertIsNone(keeping_spots(told, stops("0:1/2"), 0))
        for told in some_works():
            for seed in range(6):
                some = some_stops(told, 140 + seed, 4 + seed % 5)
                for number in range(len(some)):
                    rest = some[:number] + some[number + 1:]
                    found = keeping_spots(told, some, number)
                    self.assertEqual(found, firming_spots(told, rest, some[number][0]))
                    spot = value(some[number][1])
                    kept = found is not None and value(found[0]) < spot < value(found[1])
                    self.assertEqual(free_direction(rows_of(told, some)) is None, kept)

    def test_no_stop(self):
        some = stops("0:1/2 1:1/2 2:1/4")
        for number in NO_SIDES + (4,):
            with self.assertRaises(NoStop) as caught:
                keeping_spots(work(TRIANGLE), some, number)
            self.assertIs(caught.exception.number, number)
        with self.assertRaises(NoStop) as caught:
            keeping_spots(work(TRIANGLE), (), 0)
        self.assertEqual(caught.exception.number, 0)


if __name__ == "__main__":
    unittest.main()
