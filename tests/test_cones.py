"""[7.4]: the edge motions, which decide about all pulls."""

import random
import unittest
from itertools import permutations
from math import gcd, lcm
from operator import mul

from firmstops.cones import edge_motions
from firmstops.firm import is_firm
from firmstops.freely import free_edges
from firmstops.linear import kernel_of
from firmstops.pulls import is_borne
from firmstops.pushes import rows_of
from firmstops.stiemke import Amounts, bear_target
from firmstops.works import Work

from helpers import BOX, SQUARE, TRIANGLE
from helpers import hold_cases, is_free_of, is_new_tuple, is_plain, product, rank, ratio, refuses_stops, row
from helpers import rows, some_stops, some_works, stops, value, values, weighted, work

GREAT = 10 ** 150 + 3


def all_cases():
    return list(hold_cases(5)) + [(told, some_stops(told, 280, 8)) for told in some_works()]


def whole(line):
    """The whole numbers without a common divisor that are a row of ratios times a number above 0."""
    bottom = lcm(*[one[1] for one in line])
    return divided([one[0] * (bottom // one[1]) for one in line])


def divided(numbers):
    """Whole numbers, not all 0, without their common divisor."""
    return tuple(one // gcd(*numbers) for one in numbers)


def edges_beside(lines, kernel):
    """The plain motions, at right angles to a kernel, at the edges of the free motions of rows, by cross products."""
    some = [whole(line) for line in lines]
    some += [tuple(sign * one for one in whole(line)) for line in kernel for sign in (1, -1)]
    found = set()
    for (a, b, c), (d, e, f) in permutations(some, 2):
        motion = (b * f - c * e, c * d - a * f, a * e - b * d)
        if any(motion) and all(sum(map(mul, motion, line)) >= 0 for line in some):
            found.add(divided(motion))
    return found


class EdgeMotions(unittest.TestCase):

    def test_the_example(self):
        told = work(BOX)
        some = [list(one) for one in stops("0:1/4 0:3/4")]
        self.assertEqual(edge_motions(told, some), rows("-1 0 0", "0 -1 1", "0 3 -1", "1 0 0"))

    def test_no_stops(self):
        axes = rows("-1 0 0", "0 -1 0", "0 0 -1", "0 0 1", "0 1 0", "1 0 0")
        self.assertEqual(edge_motions(work(BOX), ()), axes)
        self.assertEqual(edge_motions(work(BOX), []), axes)

    def test_rank_one(self):
        self.assertEqual(edge_motions(work(BOX), stops("0:1/4")), rows("-1 0 0", "0 -1 1", "0 1 -1", "0 1 1", "1 0 0"))
        # Opposite stops on one normal line leave no edge beside the motions that graze both.
        self.assertEqual(edge_motions(work(BOX), stops("0:1/4 2:3/4")), rows("-1 0 0", "0 -1 1", "0 1 -1", "1 0 0"))

    def test_rank_three(self):
        triangle = work(TRIANGLE)
        self.assertEqual(edge_motions(triangle, stops("0:1/2 1:3/5 2:2/3")), rows("1 -2 1", "1 -1 1", "7 -6 3"))
        self.assertEqual(edge_motions(triangle, stops("0:1/8 0:1/2 1:3/5 2:2/3")), ())
        self.assertEqual(edge_motions(work(SQUARE), stops("0:1/2 1:1/2 2:1/2 3:1/2")), rows("-1 1 -2", "1 -1 2"))

    def test_motions(self):
        ranks = {}
        for told, some in all_cases():
            lines = rows_of(told, some)
            found = edge_motions(told, some)
            is_new_tuple(self, found)
            ranks[rank(lines)] = ranks.get(rank(lines), 0) + 1
            self.assertEqual([values(one) for one in found], sorted({values(one) for one in found}))
            self.assertTrue(all(is_plain(one) and len(one) == 3 for one in found))
            self.assertTrue(all(is_free_of(lines, values(one)) for one in found))
            kernel = kernel_of(lines) if lines else rows("1 0 0", "0 1 0", "0 0 1")
            expected = {tuple(sign * one for one in values(line)) for line in kernel for sign in (1, -1)}
            self.assertEqual({values(one) for one in found}, expected | edges_beside(lines, kernel))
            if rank(lines) == 3:
                self.assertEqual(found, free_edges(told, some))
            self.assertEqual(found == (), is_firm(told, some))
        self.assertEqual(set(ranks), {0, 1, 2, 3})

    def test_all_free_motions(self):
        chance = random.Random(281)
        seen = {True: 0, False: 0}
        for told, some in all_cases():
            lines = rows_of(told, some)
            edges = edge_motions(told, some)
            for _ in range(4):
                motion = row(*[chance.randrange(-2, 3) for _ in range(3)])
                if edges and chance.randrange(2):
                    motion = row(*weighted(edges, [ratio(chance.choice((0, 0, 1, 3))) for _ in edges]))
                if edges:
                    told_sum = isinstance(bear_target(edges, motion), Amounts)
                else:
                    told_sum = not any(values(motion))
                free = is_free_of(lines, values(motion))
                self.assertEqual(told_sum, free)
                seen[free] += 1
        self.assertGreater(min(seen.values()), 50)

    def test_all_pulls(self):
        chance = random.Random(282)
        seen = {True: 0, False: 0}
        for told, some in all_cases():
            lines = rows_of(told, some)
            edges = edge_motions(told, some)
            for _ in range(4):
                pull = row(*[chance.randrange(-3, 4) for _ in range(3)])
                if lines and chance.randrange(2):
                    shares = [ratio(chance.choice((0, 0, 1))) for _ in lines]
                    pull = row(*[-one for one in weighted(lines, shares)])
                borne = is_borne(told, some, pull)
                self.assertEqual(borne, all(product(edge, pull) <= 0 for edge in edges))
                seen[borne] += 1
        self.assertGreater(min(seen.values()), 50)

    def test_pulls_that_decide_for_all(self):
        pulls = rows("1 0 0", "0 1 0", "0 0 1", "-1 -1 -1")
        for told, some in hold_cases(6):
            self.assertEqual(all(is_borne(told, some, pull) for pull in pulls), edge_motions(told, some) == ())

    def test_great_numbers(self):
        told = Work([row(0, 0), row(4 * GREAT, 0), row(4 * GREAT, 2), row(0, 2)])
        found = edge_motions(told, stops("0:1/4 0:3/4"))
        self.assertEqual(found, (row("-1 0 0"), row(0, -GREAT, 1), row(0, 3 * GREAT, -1), row("1 0 0")))
        self.assertEqual(value(found[1][1]), -GREAT)

    def test_stops_come_first(self):
        refuses_stops(self, lambda some: edge_motions(work(TRIANGLE), some))


if __name__ == "__main__":
    unittest.main()
