"""The order of exchanges, which keeps [3.6], [3.7] and [3.9] from going round for ever."""

import unittest

from firmstops.tables import Table, direction_against

from helpers import row, rows


class Order(unittest.TestCase):

    def test_the_first_row_below_zero_leaves(self):
        for some, line in ((rows("1 0", "0 1"), 0), (rows("0 1", "1 0"), 1)):
            table = Table(some, row("-1 -2"))
            self.assertEqual(table.places, [0, 1] if line == 0 else [1, 0])
            self.assertEqual(table.short_line(), line)
        self.assertEqual(Table(rows("1 0", "0 1"), row("1 -2")).short_line(), 1)
        self.assertEqual(Table(rows("1 0", "0 1"), row("-1 2")).short_line(), 0)
        self.assertIsNone(Table(rows("1 0", "0 1"), row("0 2")).short_line())

    def test_the_tightest_line_leaves(self):
        for some in (rows("1 0", "0 1", "1 1"), rows("0 1", "1 0", "1 1")):
            for target, place in (("2 3", "1 0"), ("3 2", "0 1")):
                table = Table(some, row(target))
                told = table.places[table.tightest_line(2)]
                self.assertEqual(some[told], row(place))

    def test_of_equally_tight_lines_that_of_the_first_row_leaves(self):
        for some in (rows("1 0", "0 1", "1 1"), rows("0 1", "1 0", "1 1")):
            table = Table(some, row("2 2"))
            self.assertEqual(table.places[table.tightest_line(2)], 0)
        for some in (rows("1 0", "0 1", "1 2"), rows("0 1", "1 0", "1 2")):
            table = Table(some, row("0 0"))
            self.assertEqual(table.places[table.tightest_line(2)], 0)

    def test_lines_that_do_not_fall(self):
        table = Table(rows("1 0", "0 1", "-1 1"), row("2 2"))
        self.assertEqual(table.tightest_line(2), 1)
        self.assertIsNone(Table(rows("1 0", "0 1", "-1 0"), row("2 2")).tightest_line(2))

    def test_exchanges_keep_the_equations(self):
        some, target = rows("3 1", "-1 5", "2 -4", "-7 -2"), row("-5 1/3")
        table = Table(some, target)
        for at, place in ((0, 2), (1, 3), (0, 1), (1, 0), (0, 3)):
            table.exchange(at, place)
            self.assertGreater(table.pivot, 0)
            fresh = Table([some[k] for k in table.places], target)
            amounts = fresh.basis_amounts()
            self.assertEqual([table.basis_amounts()[k] for k in table.places], list(amounts))

    def test_it_is_led_to_amounts_from_zero_on(self):
        some, target = rows("1 0", "0 1", "-1 -1", "1 -1"), row("-3 -1")
        table = Table(some, target)
        self.assertIsNone(direction_against(some, target, table))
        self.assertTrue(all(one[0] >= 0 for one in table.basis_amounts()))


if __name__ == "__main__":
    unittest.main()
