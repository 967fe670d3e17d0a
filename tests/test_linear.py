"""[3.1] to [3.5]: rows, products, sums, rank, kernel, relations and solutions."""

import random
import unittest
from fractions import Fraction

from firmstops.errors import BadNumbers, BadRows
from firmstops.linear import check_rows, kernel_of, plain_of, product_of, rank_of, relations_of
from firmstops.linear import solve_products, weighted_sum

from helpers import NO_RATIOS, NO_SEQUENCES
from helpers import is_new_tuple, is_plain, product, rank, ratio, row, rows, value, values, weighted

GREAT = 10 ** 300 - 1
ASKS = (
    check_rows, rank_of, kernel_of, relations_of, lambda some: weighted_sum(some, None),
    lambda some: solve_products(some, None),
)


def random_rows(chance, many, width, figures=1, bottoms=False, low_rank=False):
    """Rows of random ratios, of low rank if asked, some of them zeros or equal."""
    def one():
        top = chance.randrange(-10 ** figures, 10 ** figures + 1)
        return Fraction(top, chance.randrange(1, 10 ** figures) if bottoms else 1)
    base = [[one() for _ in range(width)] for _ in range(max(1, width // 2) if low_rank else many)]
    if low_rank:
        base = [[sum(chance.randrange(-2, 3) * line[k] for line in base) for k in range(width)] for _ in range(many)]
    if chance.randrange(4) == 0:
        base[chance.randrange(many)] = [Fraction(0)] * width
    if chance.randrange(4) == 0:
        base[chance.randrange(many)] = list(base[chance.randrange(many)])
    return tuple(row(*line) for line in base)


def some_rows(seed, rounds, greatest=6, widest=5):
    """Rows of many kinds, the same ones for the same seed."""
    chance = random.Random(seed)
    found = [rows("0"), rows("5"), rows("0 0 0"), rows("0 0", "0 0"), rows("1 2", "1 2", "-2 -4"), rows("0 1", "1 0")]
    for at in range(rounds):
        many, width = chance.randrange(1, greatest + 1), chance.randrange(1, widest + 1)
        figures = chance.choice((1, 1, 2, 150)) if at % 5 == 0 else 1
        found.append(random_rows(chance, many, width, figures, chance.randrange(2) == 0, chance.randrange(2) == 0))
    return found


def led_places(kernel):
    return [max(k for k, one in enumerate(line) if one[0] != 0) for line in kernel]


class Checks(unittest.TestCase):

    def test_right_rows(self):
        for some in (rows("1"), [row("1")], [[ratio(1)]], rows("0 0"), [row("1 2")] * 24, [row(*range(12))] * 24,
                     [row("1 2"), list(row("1 2"))]):
            self.assertIsNone(check_rows(some))

    def test_wrong_rows(self):
        wrong = NO_SEQUENCES + (
            (), [], [row("1")] * 25, [()], [[]], [(), ()], [row(*range(13))], rows("1 2", "1"), rows("1", "1 2"),
            [row("1 2"), None], [None, row("1 2")], [7, row("1 2")], [None], [1, 2], [(1, 1)], row("1 2"), [row("1 2"), "ab"], [row("1 2"), (1, 2)],
            [row("1 2"), {}], ["ab"], [{}], iter(rows("1 2")),
        )
        for thing in wrong:
            for ask in ASKS:
                with self.assertRaises(BadRows):
                    ask(thing)
        for thing in NO_RATIOS:
            for some in ([(thing,)], [row("1 2"), (ratio(1), thing)], [[thing, ratio(1)], row("1 2")]):
                with self.assertRaises(BadRows):
                    check_rows(some)

    def test_numbers(self):
        some = rows("1 2 3", "4 5 6")
        for thing in NO_SEQUENCES + ((), row("1"), row("1 2 3"), list(row("1 2 3"))):
            for ask, what in ((weighted_sum, "amounts"), (solve_products, "products")):
                with self.assertRaises(BadNumbers) as caught:
                    ask(some, thing)
                self.assertEqual(caught.exception.what, what)
        for thing in NO_RATIOS:
            for ask in (weighted_sum, solve_products):
                with self.assertRaises(BadNumbers):
                    ask(some, [ratio(1), thing])

    def test_lists_stay(self):
        some, amounts = [list(row("1 2")), list(row("3 4"))], list(row("5 6"))
        for ask in (rank_of, kernel_of, relations_of, check_rows):
            ask(some)
        weighted_sum(some, amounts)
        solve_products(some, amounts)
        plain_of(amounts)
        self.assertEqual(some, [list(row("1 2")), list(row("3 4"))])
        self.assertEqual(amounts, list(row("5 6")))


class Products(unittest.TestCase):

    def test_product(self):
        self.assertEqual(product_of(row("1 2 3"), row("4 5 6")), ratio(32))
        self.assertEqual(product_of([ratio("1/2")], (ratio("2/3"),)), ratio("1/3"))
        self.assertEqual(product_of(row(*range(24)), row(*range(24))), ratio(sum(k * k for k in range(24))))
        for some in some_rows(1, 40):
            self.assertEqual(product_of(some[0], some[-1]), ratio(product(some[0], some[-1])))

    def test_weighted_sum(self):
        self.assertEqual(weighted_sum(rows("1 2", "3 4"), row("10 1/2")), row("23/2 22"))
        chance = random.Random(2)
        for some in some_rows(2, 60, 8, 6):
            amounts = row(*[Fraction(chance.randrange(-9, 10), chance.randrange(1, 9)) for _ in some])
            self.assertEqual(weighted_sum(some, amounts), row(*weighted(some, amounts)))
            found = weighted_sum([list(line) for line in some], list(amounts))
            self.assertEqual(found, weighted_sum(some, amounts))
            is_new_tuple(self, found)


class Plain(unittest.TestCase):

    def test_plain(self):
        self.assertEqual(plain_of(row("1/2 -1/3 0")), row("3 -2 0"))
        self.assertEqual(plain_of(list(row("4 -6"))), row("2 -3"))
        self.assertEqual(plain_of(row("-5")), row("-1"))
        self.assertEqual(plain_of(row("-2/7 -4/7")), row("-1 -2"))
        self.assertEqual(plain_of(row("3 5")), row("3 5"))
        self.assertEqual(plain_of(row(GREAT, 2 * GREAT)), row("1 2"))

    def test_zeros(self):
        self.assertEqual(plain_of(row("0 0 0")), row("0 0 0"))
        self.assertEqual(plain_of([ratio(0)]), row("0"))
        self.assertEqual(plain_of(()), ())

    def test_it_is_a_multiple_by_a_ratio_above_zero(self):
        for some in some_rows(3, 60):
            for line in some:
                told = plain_of(line)
                is_new_tuple(self, told)
                if any(one[0] for one in line):
                    self.assertTrue(is_plain(told))
                    by = next(value(b) / value(a) for a, b in zip(line, told) if a[0])
                    self.assertGreater(by, 0)
                    self.assertEqual(values(told), tuple(by * one for one in values(line)))


class Rank(unittest.TestCase):

    def test_small_ranks(self):
        self.assertEqual(rank_of(rows("0")), 0)
        self.assertEqual(rank_of(rows("0 0", "0 0", "0 0")), 0)
        self.assertEqual(rank_of(rows("0 0", "0 3")), 1)
        self.assertEqual(rank_of(rows("1 2", "1 2")), 1)
        self.assertEqual(rank_of(rows("1 2", "2 4", "1/3 2/3")), 1)
        self.assertEqual(rank_of(rows("1 2", "2 1")), 2)
        self.assertEqual(rank_of(rows("1 2 3", "4 5 6", "7 8 9")), 2)
        self.assertEqual(rank_of(rows("1 2 3", "4 5 6", "7 8 10")), 3)
        self.assertEqual(rank_of(rows("0 0 1", "0 1 0", "1 0 0", "1 1 1")), 3)

    def test_ranks(self):
        for some in some_rows(4, 200, 8, 6):
            self.assertEqual(rank_of(some), rank(some))
            self.assertEqual(rank_of([list(line) for line in reversed(some)]), rank(some))

    def test_great_numbers(self):
        some = (row(GREAT, GREAT - 1), row(GREAT + 1, GREAT))
        self.assertEqual(rank_of(some), 2)
        self.assertEqual(rank_of((some[0], row(Fraction(GREAT, 7), Fraction(GREAT - 1, 7)))), 1)

    def test_most_rows(self):
        chance = random.Random(5)
        for low_rank in (False, True):
            some = random_rows(chance, 24, 12, 2, True, low_rank)
            self.assertEqual(rank_of(some), rank(some))
            self.assertEqual(len(kernel_of(some)), 12 - rank(some))
            self.assertEqual(len(relations_of(some)), 24 - rank(some))


class Kernel(unittest.TestCase):

    def is_unique_form(self, kernel, many, width):
        self.assertEqual(len(kernel), many)
        led = led_places(kernel)
        self.assertEqual(led, sorted(set(led)))
        for line, place in zip(kernel, led):
            self.assertEqual(len(line), width)
            self.assertTrue(is_plain(line))
            self.assertGreater(line[place][0], 0)
            self.assertTrue(all(line[k][0] == 0 for k in led if k != place))

    def test_small_kernels(self):
        self.assertEqual(kernel_of(rows("1 2", "2 1")), ())
        self.assertEqual(kernel_of(rows("0 0 0")), rows("1 0 0", "0 1 0", "0 0 1"))
        self.assertEqual(kernel_of(rows("1 2 3")), rows("-2 1 0", "-3 0 1"))
        self.assertEqual(kernel_of(rows("2 3")), rows("-3 2"))
        self.assertEqual(kernel_of(rows("-2 3")), rows("3 2"))
        self.assertEqual(kernel_of(rows("0 1 0", "0 0 0")), rows("1 0 0", "0 0 1"))
        self.assertEqual(kernel_of(rows("0 2 -1", "0 2 -1")), rows("1 0 0", "0 1 2"))
        self.assertEqual(kernel_of(rows("1 0 1/2 0", "0 1 1/3 0")), rows("-3 -2 6 0", "0 0 0 1"))

    def test_kernels(self):
        for some in some_rows(6, 200, 6, 6):
            found = kernel_of(some)
            is_new_tuple(self, found)
            self.is_unique_form(found, len(some[0]) - rank(some), len(some[0]))
            for line in found:
                self.assertTrue(all(product(one, line) == 0 for one in some))

    def test_led_places_are_all_there_are(self):
        for some in some_rows(7, 60, 4, 5):
            led = led_places(kernel_of(some))
            width = len(some[0])
            for place in range(width):
                # A direction with its last number at this place exists just if the columns up to
                # it have the rank of the columns before it.
                upto = [line[:place + 1] for line in some]
                before = [line[:place] for line in some]
                self.assertEqual(place in led, rank(upto) == (rank(before) if place else 0))

    def test_the_row_order_does_not_matter(self):
        for some in some_rows(8, 60):
            self.assertEqual(kernel_of(some), kernel_of(tuple(reversed(some))))

    def test_relations(self):
        for some in some_rows(9, 200, 8, 5):
            found = relations_of(some)
            is_new_tuple(self, found)
            self.is_unique_form(found, len(some) - rank(some), len(some))
            for amounts in found:
                self.assertTrue(all(one == 0 for one in weighted(some, amounts)))

    def test_small_relations(self):
        self.assertEqual(relations_of(rows("1 0", "0 1")), ())
        self.assertEqual(relations_of(rows("0", "0")), rows("1 0", "0 1"))
        self.assertEqual(relations_of(rows("1 0", "0 1", "1 1")), rows("-1 -1 1"))
        self.assertEqual(relations_of(rows("1/2 0", "0 1/3", "1 1", "0 0")), rows("-2 -3 1 0", "0 0 0 1"))
        self.assertEqual(relations_of(rows("2", "-3")), rows("3 2"))
        self.assertEqual(relations_of(rows("2", "3", "4")), rows("-3 2 0", "-2 0 1"))

    def test_great_numbers(self):
        some = (row(GREAT, 1, Fraction(1, GREAT)), row(1, Fraction(1, GREAT - 2), 0))
        kernel = kernel_of(some)
        self.is_unique_form(kernel, 1, 3)
        self.assertTrue(all(product(line, kernel[0]) == 0 for line in some))


class Solving(unittest.TestCase):

    def test_small_solutions(self):
        self.assertEqual(solve_products(rows("1 0", "0 1"), row("5 7/2")), row("5 7/2"))
        self.assertEqual(solve_products(rows("0 2", "3 0"), row("1 1")), row("1/3 1/2"))
        self.assertEqual(solve_products(rows("1 1"), row("3")), row("3 0"))
        self.assertEqual(solve_products(rows("0 1 1"), row("3")), row("0 3 0"))
        self.assertEqual(solve_products(rows("0 0"), row("0")), row("0 0"))
        self.assertIsNone(solve_products(rows("0 0"), row("1")))
        self.assertIsNone(solve_products(rows("1 1", "2 2"), row("1 3")))
        self.assertEqual(solve_products(rows("1 1", "2 2"), row("1 2")), row("1 0"))
        self.assertIsNone(solve_products(rows("1 0", "0 1", "1 1"), row("1 1 3")))

    def test_solutions(self):
        chance = random.Random(10)
        for some in some_rows(10, 200, 6, 6):
            width = len(some[0])
            meant = row(*[Fraction(chance.randrange(-5, 6), chance.randrange(1, 5)) for _ in range(width)])
            products = row(*[product(line, meant) for line in some])
            found = solve_products([list(line) for line in some], list(products))
            is_new_tuple(self, found)
            self.assertEqual(len(found), width)
            self.assertEqual([product(line, found) for line in some], list(values(products)))
            self.assertTrue(all(found[k] == ratio(0) for k in led_places(kernel_of(some))))

    def test_none(self):
        chance = random.Random(11)
        many = 0
        for some in some_rows(11, 200, 6, 4):
            products = row(*[Fraction(chance.randrange(-2, 3)) for _ in some])
            joined = tuple(line + (one,) for line, one in zip(some, products))
            found = solve_products(some, products)
            self.assertEqual(found is None, rank(joined) > rank(some))
            many += found is None
        self.assertGreater(many, 20)

    def test_great_numbers(self):
        some = (row(GREAT, 1), row(1, Fraction(1, GREAT - 2)))
        found = solve_products(some, row(GREAT - 7, 1))
        self.assertEqual([product(line, found) for line in some], [GREAT - 7, 1])


if __name__ == "__main__":
    unittest.main()
