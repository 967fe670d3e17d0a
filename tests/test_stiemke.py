"""[3.6], [3.7], [3.11], with the checks of [3.1]."""

import random
import unittest
from fractions import Fraction

from firmstops.errors import BadNumbers, BadRows
from firmstops.least import Against
from firmstops.stiemke import Amounts, Balance, all_lean, balance_of, bear_target, free_direction, lean_amounts

from helpers import NO_RATIOS, NO_SEQUENCES
from helpers import bears_leanly, is_new_tuple, is_plain, lean_solutions, product, rank, ratio, row, rows
from helpers import some_systems, value, values, weighted

GREAT = 10 ** 299 + 9
UNIT = rows("1 0", "0 1", "-1 -1")


def zeros(width):
    return (ratio(0),) * width


def has_balance(some):
    """Whether amounts of at least 1 have a sum of zeros, by going through all lean amounts."""
    total = row(*[-sum(value(line[k]) for line in some) for k in range(len(some[0]))])
    return bool(lean_solutions(some, total))


class Balances(unittest.TestCase):

    def is_balance(self, some, told):
        is_new_tuple(self, told.amounts)
        self.assertEqual(len(told.amounts), len(some))
        self.assertTrue(is_plain(told.amounts))
        self.assertTrue(all(one[0] > 0 for one in told.amounts))
        self.assertTrue(all(one == 0 for one in weighted(some, told.amounts)))

    def is_against(self, some, direction):
        is_new_tuple(self, direction)
        self.assertTrue(is_plain(direction))
        products = [product(line, direction) for line in some]
        self.assertTrue(all(one >= 0 for one in products))
        self.assertTrue(any(one > 0 for one in products))

    def test_by_hand(self):
        self.assertEqual(balance_of(rows("1", "-2")), Balance(row("2 1")))
        self.assertEqual(balance_of(UNIT), Balance(row("1 1 1")))
        self.assertEqual(balance_of(rows("1/2 0", "0 3", "-1 -1")), Balance(row("6 1 3")))
        self.assertEqual(balance_of(rows("3")), Against(row("1")))
        self.assertEqual(balance_of(rows("0 -2", "0 0")).direction[1], ratio(-1))
        self.assertEqual(balance_of(rows("0")), Balance(row("1")))
        self.is_balance(rows("0 0", "0 0"), balance_of(rows("0 0", "0 0")))
        self.is_against(rows("1 0", "-1 0", "0 1"), balance_of(rows("1 0", "-1 0", "0 1")).direction)

    def test_each_row_counts(self):
        self.is_balance(rows("1 0", "-1 0", "2 0", "0 0"), balance_of(rows("1 0", "-1 0", "2 0", "0 0")))
        self.assertIsInstance(balance_of(UNIT + rows("1 1")), Balance)
        self.assertIsInstance(balance_of(rows("1 0 0", "-1 0 0", "0 1 0")), Against)

    def test_systems(self):
        kinds = {}
        for some, _ in some_systems(31, 400):
            told = balance_of(some)
            kinds[type(told)] = kinds.get(type(told), 0) + 1
            self.assertEqual(isinstance(told, Balance), has_balance(some))
            if isinstance(told, Balance):
                self.is_balance(some, told)
            else:
                self.assertIsInstance(told, Against)
                self.is_against(some, told.direction)
            self.assertEqual(balance_of([list(line) for line in some]), told)
        self.assertTrue(all(many > 50 for many in kinds.values()), kinds)

    def test_free_direction(self):
        found = {}
        for some, _ in some_systems(32, 400):
            told = free_direction(some)
            full = rank(some) == len(some[0])
            self.assertEqual(told is None, full and has_balance(some))
            if told is not None:
                is_new_tuple(self, told)
                self.assertTrue(is_plain(told))
                self.assertTrue(all(product(line, told) >= 0 for line in some))
            found[(told is None, full)] = found.get((told is None, full), 0) + 1
        self.assertTrue(all(found[kind] > 20 for kind in ((True, True), (False, True), (False, False))), found)

    def test_free_direction_by_hand(self):
        self.assertIsNone(free_direction(UNIT))
        self.assertEqual(free_direction(rows("2")), row("1"))
        self.assertIn(free_direction(rows("1 0", "-1 0")), rows("0 1", "0 -1"))
        self.assertTrue(is_plain(free_direction(rows("0 0"))))

    def test_great_numbers(self):
        some = (row(GREAT, 0), row(0, Fraction(1, GREAT)), row(-1, Fraction(-5, GREAT - 2)))
        self.is_balance(some, balance_of(some))
        self.assertIsNone(free_direction(some))
        self.is_against(some[:2], balance_of(some[:2]).direction)

    def test_most_rows(self):
        chance = random.Random(33)
        some = [[chance.randrange(-9, 10) for _ in range(12)] for _ in range(23)]
        some = tuple(row(*line) for line in some + [[-sum(column) for column in zip(*some)]])
        self.is_balance(some, balance_of(some))
        self.assertIsNone(free_direction(some))


class Bearing(unittest.TestCase):

    def test_by_hand(self):
        self.assertEqual(bear_target(rows("2 0", "0 3"), row("1 1")), Amounts(row("1/2 1/3")))
        self.assertEqual(bear_target(rows("2 0", "0 3"), row("0 0")), Amounts(row("0 0")))
        self.assertEqual(bear_target(rows("1"), row("-1")), Against(row("1")))
        self.assertEqual(bear_target(rows("0 0"), row("0 -2")), Against(row("0 1")))
        self.assertEqual(bear_target(rows("0 0"), row("0 0")), Amounts(row("0")))
        self.assertEqual(bear_target(UNIT, row("-1 -1")), Amounts(row("0 0 1")))
        self.assertEqual(bear_target(UNIT + rows("0 0"), row("0 0")), Amounts(row("0 0 0 0")))

    def test_systems(self):
        kinds = {}
        for some, target in some_systems(34, 500):
            told = bear_target(some, target)
            kinds[type(told)] = kinds.get(type(told), 0) + 1
            self.assertEqual(isinstance(told, Amounts), bool(lean_solutions(some, target)))
            if isinstance(told, Amounts):
                bears_leanly(self, some, target, told.amounts)
            else:
                self.assertIsInstance(told, Against)
                is_new_tuple(self, told.direction)
                self.assertTrue(is_plain(told.direction))
                self.assertTrue(all(product(line, told.direction) >= 0 for line in some))
                self.assertLess(product(target, told.direction), 0)
            self.assertEqual(bear_target([list(line) for line in some], list(target)), told)
        self.assertTrue(all(many > 50 for many in kinds.values()), kinds)

    def test_a_target_off_all_rows(self):
        for target in (row("0 0 1"), row("0 0 -1"), row("5 7 -1/3")):
            told = bear_target(rows("1 0 0", "0 1 0", "-1 -1 0"), target)
            self.assertTrue(is_plain(told.direction))
            self.assertLess(product(told.direction, target), 0)
            self.assertEqual(told.direction[:2], row("0 0"))

    def test_lean_amounts(self):
        chance = random.Random(35)
        for some, _ in some_systems(35, 300, 8, 4):
            amounts = row(*[Fraction(chance.choice((0, 0, 1, 2, 10 ** 100)), chance.randrange(1, 5)) for _ in some])
            told = lean_amounts([list(line) for line in some], list(amounts))
            bears_leanly(self, some, row(*weighted(some, amounts)), told)
            self.assertTrue(all(new[0] == 0 for new, old in zip(told, amounts) if old[0] == 0))

    def test_lean_amounts_by_hand(self):
        self.assertEqual(lean_amounts(UNIT, row("0 0 0")), row("0 0 0"))
        self.assertEqual(lean_amounts(UNIT, row("2 2 2")), row("0 0 0"))
        self.assertEqual(lean_amounts(UNIT, row("3 1 0")), row("3 1 0"))
        self.assertEqual(lean_amounts(UNIT, row("3 1 1")), row("2 0 0"))
        self.assertEqual(lean_amounts(rows("0", "0"), row("1 2")), row("0 0"))
        self.assertIn(lean_amounts(rows("1", "1"), row("1 2")), rows("3 0", "0 3"))
        self.assertEqual(lean_amounts(rows("1", "1"), row("0 2")), row("0 2"))


class AllLean(unittest.TestCase):

    def test_by_hand(self):
        some = rows("1 0", "0 1", "1 1", "2 0")
        self.assertEqual(list(all_lean(some, row("2 2"))), list(rows("0 0 2 0", "2 2 0 0", "0 2 0 1")))
        self.assertEqual(list(all_lean(some, row("0 0"))), [row("0 0 0 0")])
        self.assertEqual(list(all_lean(some, row("-1 0"))), [])
        self.assertEqual(list(all_lean(some, row("4 0"))), list(rows("4 0 0 0", "0 0 0 2")))
        self.assertEqual(list(all_lean(rows("0", "0"), row("0"))), [row("0 0")])
        self.assertEqual(list(all_lean(rows("0", "0"), row("1"))), [])

    def test_systems(self):
        for some, target in some_systems(36, 250, 6, 4) + some_systems(37, 20, 8, 4):
            found = list(all_lean([list(line) for line in some], list(target)))
            self.assertEqual([values(one) for one in found], lean_solutions(some, target))
            for one in found:
                is_new_tuple(self, one)

    def test_eight_rows_of_four(self):
        chance = random.Random(38)
        some = tuple(row(*[chance.randrange(-4, 5) for _ in range(4)]) for _ in range(8))
        target = row(*weighted(some, row("1 1 1 1 1 1 1 1")))
        found = list(all_lean(some, target))
        self.assertEqual([values(one) for one in found], lean_solutions(some, target))
        self.assertGreater(len(found), 3)

    def test_great_numbers(self):
        some = (row(GREAT, 1), row(1, GREAT), row(Fraction(1, GREAT), 1))
        target = row(Fraction(GREAT, 3), Fraction(1, 3))
        found = list(all_lean(some, target))
        self.assertEqual(found, [row(Fraction(1, 3), 0, 0)])


class Errors(unittest.TestCase):

    def test_rows_come_first(self):
        for some in NO_SEQUENCES + ((), [()], rows("1 2", "1"), [row("1")] * 25, [row(*range(13))]):
            for ask in (balance_of, free_direction, lambda one: bear_target(one, None),
                        lambda one: lean_amounts(one, None), lambda one: list(all_lean(one, None))):
                with self.assertRaises(BadRows):
                    ask(some)

    def test_numbers(self):
        some = rows("1 2", "3 4", "5 6")
        wrong = [[ratio(1), thing] for thing in NO_RATIOS] + list(NO_SEQUENCES)
        for target in wrong + [(), row("1"), row("1 2 3")]:
            for ask in (bear_target, lambda one, other: list(all_lean(one, other))):
                with self.assertRaises(BadNumbers) as caught:
                    ask(some, target)
                self.assertEqual(caught.exception.what, "target")
        wrong = [[ratio(1), ratio(1), thing] for thing in NO_RATIOS] + list(NO_SEQUENCES)
        for amounts in wrong + [(), row("1 2"), row("1 2 3 4"), row("1 2 -1"), row("-1/7 0 0")]:
            with self.assertRaises(BadNumbers) as caught:
                lean_amounts(some, amounts)
            self.assertEqual(caught.exception.what, "amounts")


class Results(unittest.TestCase):

    def test_they_keep_what_they_are_given(self):
        for told in (Balance, Amounts):
            thing = [1, "x"]
            self.assertIs(told(thing).amounts, thing)
            self.assertIs(told(amounts=None).amounts, None)

    def test_equal(self):
        self.assertTrue(Balance((1,)) == Balance((1,)))
        self.assertFalse(Balance((1,)) == Balance((2,)))
        self.assertTrue(Amounts((1,)) == Amounts((1,)))
        self.assertFalse(Amounts((1,)) == Amounts((2,)))
        self.assertTrue(Balance((1,)) != Amounts((1,)))
        self.assertFalse(Amounts((1,)) == Balance((1,)))
        self.assertFalse(Balance((1,)) == (1,))


if __name__ == "__main__":
    unittest.main()
