"""[3.9], [3.11], with `lean` as [3.7] tells it."""

import random
import unittest
from fractions import Fraction

from firmstops.errors import BadNumbers, BadRows
from firmstops.least import Against, Endless, Least, least_cost

from helpers import NO_RATIOS, NO_SEQUENCES
from helpers import bears_leanly, is_new_tuple, is_plain, lean_solutions, product, ratio, row, rows, some_systems
from helpers import value, weighted

GREAT = 10 ** 299 + 9


def costs_for(chance, some):
    reach = chance.choice((1, 3, 10 ** 100))
    return row(*[Fraction(chance.randrange(-reach, 2 * reach), chance.randrange(1, 4)) for _ in some])


def least_value(some, target, costs):
    """(kind, value) by going through all lean amounts."""
    borne = lean_solutions(some, target)
    if not borne:
        return ("against", None)
    ways = lean_solutions([line + (ratio(1),) for line in some], tuple(ratio(0) for _ in target) + (ratio(1),))
    cost = [value(one) for one in costs]
    if any(sum(a * b for a, b in zip(way, cost)) < 0 for way in ways):
        return ("endless", None)
    return ("least", min(sum(a * b for a, b in zip(amounts, cost)) for amounts in borne))


class LeastCost(unittest.TestCase):

    def is_right(self, some, target, costs, told):
        if isinstance(told, Least):
            bears_leanly(self, some, target, told.amounts)
            is_new_tuple(self, told.direction)
            self.assertEqual(told.value, ratio(product(told.amounts, costs)))
            self.assertTrue(all(product(line, told.direction) <= value(cost) for line, cost in zip(some, costs)))
            self.assertEqual(product(target, told.direction), value(told.value))
        elif isinstance(told, Endless):
            bears_leanly(self, some, target, told.amounts)
            is_new_tuple(self, told.way)
            self.assertTrue(is_plain(told.way))
            self.assertTrue(all(one[0] >= 0 for one in told.way))
            self.assertTrue(all(one == 0 for one in weighted(some, told.way)))
            self.assertLess(product(told.way, costs), 0)
        else:
            self.assertIsInstance(told, Against)
            is_new_tuple(self, told.direction)
            self.assertTrue(is_plain(told.direction))
            self.assertTrue(all(product(line, told.direction) >= 0 for line in some))
            self.assertLess(product(target, told.direction), 0)

    def test_by_hand(self):
        some = rows("1 0", "0 1", "1 1")
        told = least_cost(some, row("2 3"), row("1 1 1"))
        self.assertEqual((told.value, told.amounts, told.direction), (ratio(3), row("0 1 2"), row("0 1")))
        told = least_cost(some, row("2 3"), row("1 1 3"))
        self.assertEqual((told.value, told.amounts), (ratio(5), row("2 3 0")))
        self.assertEqual(told.direction, row("1 1"))
        self.assertEqual(least_cost(rows("1", "2"), row("-3"), row("1 1")), Against(row("1")))
        self.assertEqual(least_cost(rows("1", "-1"), row("2"), row("1 -2")), Endless(row("2 0"), row("1 1")))
        self.assertEqual(least_cost(rows("1", "-1"), row("2"), row("1 -1")).value, ratio(2))

    def test_systems(self):
        chance = random.Random(21)
        kinds = {}
        for some, target in some_systems(21, 500):
            costs = costs_for(chance, some)
            told = least_cost(some, target, costs)
            self.is_right(some, target, costs, told)
            kind, least = least_value(some, target, costs)
            self.assertEqual(type(told).__name__.lower(), kind)
            if kind == "least":
                self.assertEqual(value(told.value), least)
            kinds[kind] = kinds.get(kind, 0) + 1
        self.assertTrue(all(kinds[kind] > 50 for kind in ("least", "endless", "against")), kinds)

    def test_lists_stand_for_tuples(self):
        for some, target in some_systems(22, 30):
            costs = row(*range(len(some)))
            listed = [list(line) for line in some], list(target), list(costs)
            self.assertEqual(least_cost(*listed), least_cost(some, target, costs))
            self.assertEqual(listed, ([list(line) for line in some], list(target), list(costs)))

    def test_against_stands_before_endless(self):
        told = least_cost(rows("1 0", "-1 0"), row("0 1"), row("-1 -1"))
        self.assertIsInstance(told, Against)
        self.is_right(rows("1 0", "-1 0"), row("0 1"), row("-1 -1"), told)

    def test_rows_of_zeros(self):
        some, target = rows("0 0", "0 0"), row("0 0")
        told = least_cost(some, target, row("0 1"))
        self.assertEqual(told, Least(ratio(0), row("0 0"), row("0 0")))
        self.assertEqual(least_cost(some, target, row("1 -1")), Endless(row("0 0"), row("0 1")))
        told = least_cost(some, row("0 2"), row("1 -1"))
        self.assertEqual(told, Against(row("0 -1")))

    def test_equal_rows(self):
        told = least_cost(rows("2 1") * 3, row("4 2"), row("5 3 4"))
        self.assertEqual((told.value, told.amounts), (ratio(6), row("0 2 0")))

    def test_a_target_of_zeros(self):
        some = rows("1 0 0", "0 1 0", "-1 -1 0")
        told = least_cost(some, row("0 0 0"), row("1 1 -2"))
        self.assertEqual((told.value, told.amounts), (ratio(0), row("0 0 0")))
        self.assertEqual(least_cost(some, row("0 0 0"), row("1 1 -3")), Endless(row("0 0 0"), row("1 1 1")))

    def test_costs_below_zero(self):
        told = least_cost(rows("1 0", "0 1", "1 1"), row("2 3"), row("-1 -1 -1"))
        self.assertEqual((told.value, told.amounts), (ratio(-5), row("2 3 0")))

    def test_low_rank(self):
        some = rows("1 1 2", "1 -1 0", "2 0 2")
        told = least_cost(some, row("4 0 4"), row("1 1 3"))
        self.assertEqual(told.value, ratio(4))
        self.is_right(some, row("4 0 4"), row("1 1 3"), told)
        self.is_right(some, row("4 0 5"), row("1 1 3"), least_cost(some, row("4 0 5"), row("1 1 3")))

    def test_great_numbers(self):
        some = (row(GREAT, 1), row(-1, Fraction(GREAT, 7)), row(Fraction(-1, GREAT), -GREAT), row(GREAT, GREAT))
        target = row(Fraction(GREAT, 3), 5)
        costs = row(GREAT, Fraction(1, GREAT), 2, Fraction(7, GREAT + 1))
        told = least_cost(some, target, costs)
        self.is_right(some, target, costs, told)
        self.assertEqual(value(told.value), least_value(some, target, costs)[1])

    def test_turns_that_go_round(self):
        # With other orders of exchange these rows are known to lead round for ever.
        some = tuple(zip(*rows("1/4 -60 -1/25 9 1 0 0", "1/2 -90 -1/50 3 0 1 0", "0 0 1 0 0 0 1")))
        told = least_cost(some, row("0 0 1"), row("-3/4 150 -1/50 6 0 0 0"))
        self.assertEqual(told.value, ratio("-1/20"))
        some = tuple(zip(*rows("1/2 -11/2 -5/2 9 1 0 0", "1/2 -3/2 -1/2 1 0 1 0", "1 0 0 0 0 0 1")))
        told = least_cost(some, row("0 0 1"), row("-10 57 9 24 0 0 0"))
        self.assertEqual(told.value, ratio(-1))

    def test_most_rows(self):
        chance = random.Random(23)
        for at in range(6):
            some = tuple(row(*[chance.randrange(-9, 10) for _ in range(12)]) for _ in range(24))
            shares = row(*[chance.randrange(0, 3) for _ in range(24)])
            target = row(*weighted(some, shares)) if at % 2 else row(*[chance.randrange(-9, 10) for _ in range(12)])
            costs = row(*[chance.randrange(0, 20) if at < 4 else chance.randrange(-20, 20) for _ in range(24)])
            self.is_right(some, target, costs, least_cost(some, target, costs))


class Errors(unittest.TestCase):

    def test_order(self):
        some = rows("1 2", "3 4", "5 6")
        with self.assertRaises(BadRows):
            least_cost(rows("1 2", "3"), None, None)
        with self.assertRaises(BadRows):
            least_cost((), (), ())
        for target in NO_SEQUENCES + ((), row("1"), row("1 2 3")):
            with self.assertRaises(BadNumbers) as caught:
                least_cost(some, target, None)
            self.assertEqual(caught.exception.what, "target")
        for costs in NO_SEQUENCES + ((), row("1 2"), row("1 2 3 4")):
            with self.assertRaises(BadNumbers) as caught:
                least_cost(some, row("1 2"), costs)
            self.assertEqual(caught.exception.what, "costs")
        for thing in NO_RATIOS:
            with self.assertRaises(BadNumbers) as caught:
                least_cost(some, (thing, ratio(1)), row("1 2 3"))
            self.assertEqual(caught.exception.what, "target")
            with self.assertRaises(BadNumbers) as caught:
                least_cost(some, row("1 2"), [ratio(1), ratio(1), thing])
            self.assertEqual(caught.exception.what, "costs")


class Results(unittest.TestCase):

    def test_they_keep_what_they_are_given(self):
        things = [1], None, "x"
        told = Least(*things)
        self.assertTrue(told.value is things[0] and told.amounts is things[1] and told.direction is things[2])
        told = Least(direction=1, value=2, amounts=3)
        self.assertEqual((told.value, told.amounts, told.direction), (2, 3, 1))
        told = Endless(things[0], things[2])
        self.assertTrue(told.amounts is things[0] and told.way is things[2])
        self.assertEqual(Endless(way=1, amounts=2).amounts, 2)
        self.assertIs(Against(direction=things[0]).direction, things[0])

    def test_equal(self):
        self.assertTrue(Least(1, 2, 3) == Least(1, 2, 3))
        for other in (Least(0, 2, 3), Least(1, 0, 3), Least(1, 2, 0), Endless(1, 2), (1, 2, 3), None):
            self.assertFalse(Least(1, 2, 3) == other)
            self.assertTrue(Least(1, 2, 3) != other)
        self.assertTrue(Endless(1, 2) == Endless(1, 2))
        for other in (Endless(0, 2), Endless(1, 0), Least(1, 2, 3), (1, 2), None):
            self.assertFalse(Endless(1, 2) == other)
        self.assertTrue(Against(1) == Against(1))
        for other in (Against(2), 1, None, Endless(1, 1)):
            self.assertFalse(Against(1) == other)


if __name__ == "__main__":
    unittest.main()
