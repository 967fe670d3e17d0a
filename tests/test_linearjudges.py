"""[3.10] with [0.9]: the judges of balances, of borne targets and of least costs."""

import random
import unittest
from fractions import Fraction

from firmstops.least import Against, Endless, Least, least_cost
from firmstops.linearjudges import balance_fault, bear_fault, least_fault
from firmstops.stiemke import Amounts, Balance, balance_of, bear_target

from helpers import NO_RATIOS
from helpers import no_numbers, ratio, row, rows, some_systems

GREAT = 10 ** 700 + 1
UNIT = rows("1 0", "0 1", "-1 -1")
CORNER = rows("1 0", "0 1", "1 1")


class BalanceFault(unittest.TestCase):

    def test_right_results(self):
        for some, _ in some_systems(51, 150):
            told = balance_of(some)
            self.assertIsNone(balance_fault(some, told))
            listed = [list(line) for line in some]
            if isinstance(told, Balance):
                self.assertIsNone(balance_fault(listed, Balance(list(told.amounts))))
            else:
                self.assertIsNone(balance_fault(listed, Against(list(told.direction))))

    def test_amounts(self):
        for amounts in no_numbers(3) + [row("1 1 0"), row("-1 1 1"), row("0 0 0"), row("2 -1 2")]:
            self.assertEqual(balance_fault(UNIT, Balance(amounts)), "amounts")

    def test_plain(self):
        for amounts in (row("2 2 2"), row("1/2 1/2 1/2"), row("2 4 6"), row("1/2 1 1"), row(GREAT, GREAT, GREAT)):
            self.assertEqual(balance_fault(UNIT, Balance(amounts)), "plain")

    def test_sum(self):
        for amounts in (row("1 1 2"), row("1 2 1"), row(GREAT, GREAT, GREAT - 1)):
            self.assertEqual(balance_fault(UNIT, Balance(amounts)), "sum")
        self.assertEqual(balance_fault(rows("1"), Balance(row("1"))), "sum")
        self.assertIsNone(balance_fault(rows("0"), Balance(row("1"))))

    def test_direction(self):
        for direction in no_numbers(2):
            self.assertEqual(balance_fault(CORNER, Against(direction)), "direction")

    def test_plain_direction(self):
        for direction in (row("0 0"), row("2 2"), row("1/2 1"), row("-2 0"), row(GREAT, GREAT)):
            self.assertEqual(balance_fault(CORNER, Against(direction)), "plain")

    def test_products(self):
        for direction in (row("-1 1"), row("1 -1"), row("-1 -1"), row(-1, GREAT)):
            self.assertEqual(balance_fault(CORNER, Against(direction)), "products")
        self.assertEqual(balance_fault(UNIT, Against(row("1 0"))), "products")

    def test_zero(self):
        self.assertEqual(balance_fault(rows("1 0", "-1 0"), Against(row("0 1"))), "zero")
        self.assertEqual(balance_fault(rows("0 0"), Against(row("0 1"))), "zero")
        self.assertIsNone(balance_fault(rows("1 0", "0 0", "2 1"), Against(row("0 1"))))
        self.assertIsNone(balance_fault(rows("1 0", "2 0"), Against(row("1 0"))))


class BearFault(unittest.TestCase):

    def test_right_results(self):
        for some, target in some_systems(52, 200):
            told = bear_target(some, target)
            self.assertIsNone(bear_fault(some, target, told))
            if isinstance(told, Amounts):
                self.assertIsNone(bear_fault(list(some), list(target), Amounts(list(told.amounts))))
            else:
                self.assertIsNone(bear_fault(list(some), list(target), Against(list(told.direction))))

    def test_amounts(self):
        for amounts in no_numbers(3) + [row("-1 1 1"), row("2 3 -1/9"), row(1, 1, -GREAT)]:
            self.assertEqual(bear_fault(CORNER, row("2 3"), Amounts(amounts)), "amounts")

    def test_sum(self):
        for amounts in (row("0 0 0"), row("2 2 0"), row("1 1 1"), row("0 1 3"), row(GREAT, GREAT, GREAT)):
            self.assertEqual(bear_fault(CORNER, row("2 3"), Amounts(amounts)), "sum")

    def test_lean(self):
        self.assertEqual(bear_fault(CORNER, row("2 3"), Amounts(row("1 2 1"))), "lean")
        self.assertEqual(bear_fault(CORNER, row("2 3"), Amounts(row("1/2 3/2 3/2"))), "lean")
        for amounts in (row("2 3 0"), row("0 1 2")):
            self.assertIsNone(bear_fault(CORNER, row("2 3"), Amounts(amounts)))
        self.assertEqual(bear_fault(rows("0 0", "1 0"), row("1 0"), Amounts(row("1 1"))), "lean")
        self.assertEqual(bear_fault(UNIT, row("0 0"), Amounts(row("1 1 1"))), "lean")
        self.assertIsNone(bear_fault(UNIT, row("0 0"), Amounts(row("0 0 0"))))
        self.assertEqual(bear_fault(rows("1 0", "2 0"), row("5 0"), Amounts(row("1 2"))), "lean")

    def test_direction(self):
        for direction in no_numbers(2):
            self.assertEqual(bear_fault(CORNER, row("-1 0"), Against(direction)), "direction")

    def test_plain(self):
        for direction in (row("0 0"), row("2 0"), row("1/2 0"), row("-3 0")):
            self.assertEqual(bear_fault(CORNER, row("-1 0"), Against(direction)), "plain")

    def test_products(self):
        for direction in (row("-1 0"), row("1 -1"), row(GREAT, -1)):
            self.assertEqual(bear_fault(CORNER, row("-1 0"), Against(direction)), "products")

    def test_target(self):
        self.assertEqual(bear_fault(CORNER, row("-1 0"), Against(row("0 1"))), "target")
        self.assertEqual(bear_fault(CORNER, row("-1 2"), Against(row("1 1"))), "target")
        self.assertIsNone(bear_fault(CORNER, row("-1 0"), Against(row("1 0"))))
        self.assertIsNone(bear_fault(CORNER, row("-1 0"), Against(row("1 1"))))


class LeastFault(unittest.TestCase):

    some, target, costs = CORNER, row("2 3"), row("1 1 1")

    def least(self, value, amounts, direction):
        return least_fault(self.some, self.target, self.costs, Least(value, amounts, direction))

    def test_right_results(self):
        chance = random.Random(53)
        for some, target in some_systems(53, 200):
            costs = row(*[Fraction(chance.randrange(-1, 4), chance.randrange(1, 3)) for _ in some])
            told = least_cost(some, target, costs)
            self.assertIsNone(least_fault(some, target, costs, told))
            if isinstance(told, Least):
                listed = Least(told.value, list(told.amounts), list(told.direction))
            elif isinstance(told, Endless):
                listed = Endless(list(told.amounts), list(told.way))
            else:
                listed = Against(list(told.direction))
            self.assertIsNone(least_fault(list(some), list(target), list(costs), listed))

    def test_least(self):
        self.assertIsNone(self.least(ratio(3), row("0 1 2"), row("0 1")))
        self.assertIsNone(self.least(ratio(3), list(row("0 1 2")), list(row("0 1"))))

    def test_amounts_sum_lean(self):
        for amounts in no_numbers(3) + [row("-1 0 3")]:
            self.assertEqual(self.least(None, amounts, None), "amounts")
        self.assertEqual(self.least(None, row("0 1 3"), None), "sum")
        self.assertEqual(self.least(None, row("1 2 1"), None), "lean")

    def test_value(self):
        for value in NO_RATIOS + (ratio(2), ratio(4), ratio(-3), ratio("7/2"), (3, True), (3.0, 1), [3, 1], (6, 2)):
            self.assertEqual(self.least(value, row("0 1 2"), None), "value")
        self.assertEqual(self.least(ratio(3), row("2 3 0"), row("1 1")), "value")

    def test_direction(self):
        for direction in no_numbers(2):
            self.assertEqual(self.least(ratio(3), row("0 1 2"), direction), "direction")

    def test_products(self):
        for direction in (row("1 1"), row("0 2"), row("2 -1"), row("0 1001/1000"), row(GREAT, -GREAT)):
            self.assertEqual(self.least(ratio(3), row("0 1 2"), direction), "products")

    def test_bound(self):
        for direction in (row("0 0"), row("1 0"), row("0 1/2"), row("-1 1")):
            self.assertEqual(self.least(ratio(3), row("0 1 2"), direction), "bound")
        self.assertEqual(self.least(ratio(5), row("2 3 0"), row("0 1")), "bound")

    def test_endless(self):
        some, target, costs = rows("1", "-1", "0"), row("2"), row("1 -2 0")

        def judge(amounts, way):
            return least_fault(some, target, costs, Endless(amounts, way))

        self.assertIsNone(judge(row("2 0 0"), row("1 1 0")))
        self.assertIsNone(judge(list(row("2 0 0")), list(row("2 2 1"))))
        for amounts in no_numbers(3) + [row("2 0 -1")]:
            self.assertEqual(judge(amounts, None), "amounts")
        self.assertEqual(judge(row("1 0 0"), None), "sum")
        self.assertEqual(judge(row("3 1 0"), None), "lean")
        self.assertEqual(judge(row("2 0 1"), None), "lean")
        for way in no_numbers(3) + [row("-1 -1 0"), row("1 1 -1")]:
            self.assertEqual(judge(row("2 0 0"), way), "way")
        for way in (row("0 0 0"), row("2 2 0"), row("1/2 1/2 0"), row("2 4 0")):
            self.assertEqual(judge(row("2 0 0"), way), "plain")
        for way in (row("1 0 0"), row("1 2 0"), row("2 1 1")):
            self.assertEqual(judge(row("2 0 0"), way), "rest")
        self.assertEqual(judge(row("2 0 0"), row("0 0 1")), "costs")
        self.assertEqual(least_fault(some, target, row("2 -2 0"), Endless(row("2 0 0"), row("1 1 0"))), "costs")
        self.assertEqual(least_fault(some, target, row("2 -1 0"), Endless(row("2 0 0"), row("1 1 0"))), "costs")

    def test_against(self):
        target = row("-1 0")

        def judge(direction):
            return least_fault(CORNER, target, self.costs, Against(direction))

        self.assertIsNone(judge(row("1 0")))
        for direction in no_numbers(2):
            self.assertEqual(judge(direction), "direction")
        self.assertEqual(judge(row("2 0")), "plain")
        self.assertEqual(judge(row("1 -1")), "products")
        self.assertEqual(judge(row("0 1")), "target")


if __name__ == "__main__":
    unittest.main()
