"""[3.8]: the edges of free directions."""

import random
import unittest
from fractions import Fraction
from itertools import combinations

from firmstops.edges import edges_of
from firmstops.errors import BadRows, LowRank

from helpers import NO_SEQUENCES
from helpers import is_new_tuple, is_plain, lean_solutions, product, rank, ratio, row, rows, some_systems, values

GREAT = 10 ** 200 + 1


class Edges(unittest.TestCase):

    def are_edges(self, some, found):
        is_new_tuple(self, found)
        self.assertEqual([values(one) for one in found], sorted(set(values(one) for one in found)))
        for edge in found:
            self.assertTrue(is_plain(edge))
            products = [product(line, edge) for line in some]
            self.assertTrue(all(one >= 0 for one in products))
            grazed = [line for line, one in zip(some, products) if one == 0]
            self.assertEqual(rank(grazed), len(some[0]) - 1)

    def test_by_hand(self):
        self.assertEqual(edges_of(rows("1 0", "0 1")), rows("0 1", "1 0"))
        self.assertEqual(edges_of(rows("1 0", "1 1")), rows("0 1", "1 -1"))
        self.assertEqual(edges_of(rows("1 0", "0 1", "1 1", "2 0")), rows("0 1", "1 0"))
        self.assertEqual(edges_of(rows("1 0", "0 1", "-1 -1")), ())
        self.assertEqual(edges_of(rows("1 0", "-1 0", "0 1")), rows("0 1"))
        self.assertEqual(edges_of(rows("1/2 0 0", "0 -3 0", "0 0 7")), rows("0 -1 0", "0 0 1", "1 0 0"))
        square = rows("1 0 1", "-1 0 1", "0 1 1", "0 -1 1")
        self.assertEqual(edges_of(square), rows("-1 -1 1", "-1 1 1", "1 -1 1", "1 1 1"))

    def test_rows_of_one(self):
        self.assertEqual(edges_of(rows("2")), rows("1"))
        self.assertEqual(edges_of(rows("-2", "-1/3", "0")), rows("-1"))
        self.assertEqual(edges_of(rows("2", "-1")), ())

    def test_ascending_by_number(self):
        found = edges_of(rows("1 0 10", "0 1 10", "-1 0 10", "0 -1 10"))
        self.assertEqual(found, rows("-10 -10 1", "-10 10 1", "10 -10 1", "10 10 1"))
        found = edges_of(rows("1 0 3", "0 1 0", "-1 -1 20"))
        self.assertEqual(found, rows("-3 0 1", "-3 23 1", "20 0 1"))

    def test_low_rank(self):
        for some, many in ((rows("0"), 0), (rows("0 0 0"), 0), (rows("1 2", "2 4"), 1), (rows("1 0 0", "0 1 0"), 2),
                           (rows("1 2 3", "4 5 6", "7 8 9"), 2), ([row("1 1 1")] * 24, 1)):
            with self.assertRaises(LowRank) as caught:
                edges_of(some)
            self.assertEqual(caught.exception.rank, many)

    def test_bad_rows(self):
        for some in NO_SEQUENCES + ((), [()], rows("1 2", "1"), [row("1")] * 25, [row(*range(13))], [(1, 2)]):
            with self.assertRaises(BadRows):
                edges_of(some)

    def test_no_edge_is_missing(self):
        chance = random.Random(41)
        many = 0
        for some, target in some_systems(41, 300, 7, 4):
            width = len(some[0])
            if rank(some) < width:
                with self.assertRaises(LowRank) as caught:
                    edges_of(some)
                self.assertEqual(caught.exception.rank, rank(some))
                continue
            found = edges_of([list(line) for line in some])
            self.are_edges(some, found)
            # A target is borne exactly if its products with all edges are from 0 on.
            for aim in (target, row(*[chance.randrange(-4, 5) for _ in range(width)])):
                borne = bool(lean_solutions(some, aim))
                self.assertEqual(borne, all(product(edge, aim) >= 0 for edge in found))
            many += len(found) > 0
            for edge in found:
                rest = [one for one in found if one != edge]
                self.assertFalse(rest and lean_solutions(rest, edge))
        self.assertGreater(many, 60)

    def test_against_all_lots(self):
        chance = random.Random(42)
        for _ in range(25):
            some = tuple(row(chance.randrange(-9, 10), chance.randrange(-9, 10), chance.randrange(1, 9))
                         for _ in range(chance.randrange(3, 9)))
            if rank(some) < 3:
                continue
            expected = set()
            for one, two in combinations(some, 2):
                (a, b, c), (d, e, f) = values(one), values(two)
                normal = (b * f - c * e, c * d - a * f, a * e - b * d)
                for told in (normal, tuple(-x for x in normal)):
                    if any(told) and all(product(line, row(*told)) >= 0 for line in some):
                        scale = max(abs(x) for x in told)
                        expected.add(tuple(x / scale for x in told))
            found = {tuple(x / max(abs(y) for y in values(one)) for x in values(one)) for one in edges_of(some)}
            self.assertEqual(found, expected)

    def test_most_rows(self):
        some = tuple(row(k, 1, k * k) for k in range(-12, 12))
        found = edges_of(some)
        self.are_edges(some, found)
        self.assertEqual(len(found), 24)
        chance = random.Random(43)
        some = tuple(row(*([chance.randrange(-9, 10) for _ in range(3)] + [9])) for _ in range(10))
        self.are_edges(some, edges_of(some))
        self.assertGreater(len(edges_of(some)), 5)

    def test_great_numbers(self):
        some = (row(GREAT, Fraction(1, GREAT), 0), row(0, -GREAT, 1), row(1, 1, Fraction(-5, GREAT)))
        found = edges_of(some)
        self.are_edges(some, found)
        self.assertEqual(len(found), 3)

    def test_lists_stay(self):
        some = [[ratio(2), ratio(0)], [ratio(0), ratio(2)]]
        edges_of(some)
        self.assertEqual(some, [[ratio(2), ratio(0)], [ratio(0), ratio(2)]])


if __name__ == "__main__":
    unittest.main()
