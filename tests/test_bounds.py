"""[7.8] to [7.11]: bounds of amounts, walls, least multiples, and the judge."""

import random
import unittest
from fractions import Fraction
from itertools import combinations
from math import gcd

from firmstops.bornewhere import borne_directions, borne_places, weight_place
from firmstops.areas import Area
from firmstops.bounds import Overborne, Strain, greatest_push, least_multiple, strain_fault, walls_of, within_bounds
from firmstops.cones import edge_motions
from firmstops.errors import BadBounds, BadPull
from firmstops.least import Least, least_cost
from firmstops.linear import kernel_of
from firmstops.pulls import NO_PULL, Pulled, Pushes, is_borne, pull_at
from firmstops.pushes import rows_of
from firmstops.spans import pull_range
from firmstops.stiemke import Amounts, bear_target

from helpers import BOX, NO_MOTIONS, NO_RATIOS, NO_SEQUENCES, TRIANGLE
from helpers import couples, crossed, hold_cases, is_new_tuple, is_plain, is_result, no_numbers, product, ratio
from helpers import refused, refuses_stops, row, rows, some_pulls, some_stops, some_works, stops, value, values
from helpers import weighted, work

GREAT = 10 ** 280 + 3
TWO = stops("0:1/4 0:3/4")
ONES = row("1 1")
HALVES = ("1/2", "2", "7", Fraction(GREAT, 7), Fraction(1, GREAT), "1", "1", "5/3")


def cases():
    """Works with stops and bounds; few stops with great numbers, up to 8 with small ones."""
    chance = random.Random(420)
    some = list(hold_cases(4))[::2] + [(told, some_stops(told, 421, 5)) for told in some_works()[:3]]
    for at, (told, lot) in enumerate(some):
        few = at % 3 > 0
        yield told, lot, row(*[chance.choice(HALVES[:3] if few else HALVES) for _ in lot])


def units(many, at, by=1):
    """Many ratios, all 0 but one of them."""
    return tuple(ratio(by if k == at else 0) for k in range(many))


def bounded_rows(lines):
    """Rows that tell amounts and what each lacks of its bound."""
    many = len(lines)
    return [line + units(many, at) for at, line in enumerate(lines)] + [
        units(3, -1) + units(many, at) for at in range(many)
    ]


def opposites(line):
    return row(*[-one for one in values(line)])


def is_within_bounds(lines, pull, bounds):
    """Whether a pull is within bounds, by amounts and what they lack, all from 0 on."""
    if not lines:
        return not any(values(pull))
    return isinstance(bear_target(bounded_rows(lines), opposites(pull) + tuple(bounds)), Amounts)


def least_of_first(lines, pull, bounds):
    """The least first amount within bounds, by least costs, or None."""
    some = bounded_rows(lines)
    told = least_cost(some, opposites(pull) + tuple(bounds), units(len(some), 0))
    return told.value if isinstance(told, Least) else None


def first_of_all(lines, pull, bounds):
    """The amounts within bounds with the least first one, the least second one among these, and so on."""
    found = []
    while lines:
        amount = least_of_first(lines, pull, bounds)
        pull = row(*[a + value(amount) * b for a, b in zip(values(pull), values(lines[0]))])
        found.append(amount)
        lines, bounds = lines[1:], bounds[1:]
    return tuple(found)


def multiple_by_costs(lines, pull, bounds):
    """The least multiple of the bounds within which a pull is, by least costs, or None."""
    some = bounded_rows(lines) + [units(3, -1) + opposites(bounds)]
    told = least_cost(some, opposites(pull) + units(len(lines), -1), units(len(some), len(some) - 1))
    return told.value if isinstance(told, Least) else None


def strength(lines, bounds, motion):
    """The strength, in Fractions, against a motion."""
    return sum((value(bound) * max(-product(line, motion), 0) for line, bound in zip(lines, bounds)), Fraction(0))


def walls_by_hand(lines, bounds):
    """The walls by the words of the document, in Fractions."""
    some = tuple(lines) + (kernel_of(lines) if lines else rows("1 0 0", "0 1 0", "0 0 1"))
    motions = set()
    for one, other in combinations(some, 2):
        told = crossed(one, other)
        if any(told):
            scale = 1
            for one in told:
                scale = scale * one.denominator // gcd(scale, one.denominator)
            shared = gcd(*[int(one * scale) for one in told])
            for sign in (1, -1):
                motions.add(tuple(sign * int(one * scale) // shared for one in told))
    return tuple((row(*motion), ratio(strength(lines, bounds, row(*motion)))) for motion in sorted(motions))


class Example(unittest.TestCase):

    def test_of_the_document(self):
        told, pull = work(BOX), row("0 -1 -2")
        self.assertEqual(rows_of(told, TWO), rows("0 4 4", "0 4 12"))
        self.assertEqual(weight_place(told), row("2 1"))
        self.assertEqual(pull_at(row("2 1"), row("0 -1")), pull)
        self.assertEqual(within_bounds(told, TWO, pull, ONES), Pushes(row("1/8 1/8")))
        self.assertEqual(edge_motions(told, TWO), rows("-1 0 0", "0 -1 1", "0 3 -1", "1 0 0"))
        self.assertEqual(borne_places(told, TWO, row("0 -1")), Area(couples("1,0 3,0 3,2 1,2")))
        self.assertEqual(borne_directions(told, TWO, row("2 1")), ("ray", row("0 -1")))
        motions = rows("-1 0 0", "0 -3 1", "0 -1 1", "0 1 -1", "0 3 -1", "1 0 0")
        self.assertEqual(walls_of(told, TWO, ONES), tuple(zip(motions, row("0 8 0 8 0 0"))))
        beyond = row("0 -16 -32")
        found = within_bounds(told, TWO, beyond, ONES)
        self.assertIsInstance(found, Overborne)
        self.assertIsNone(strain_fault(told, TWO, beyond, ONES, found))
        self.assertIsNone(strain_fault(told, TWO, beyond, ONES, Overborne(row("0 -3 1"))))
        self.assertEqual(least_multiple(told, TWO, pull, ONES).multiple, ratio("1/8"))
        self.assertEqual(least_multiple(told, TWO, pull, ONES).amounts, row("1/8 1/8"))
        self.assertEqual(greatest_push(told, TWO, pull), ratio("1/8"))
        self.assertEqual(pull_range(told, TWO, pull, row("0 0 -1")), row("-1 1"))


class Walls(unittest.TestCase):

    def test_ranks(self):
        told = work(BOX)
        found = walls_of(told, (), ())
        self.assertEqual(found, tuple((motion, ratio(0)) for motion in rows(
            "-1 0 0", "0 -1 0", "0 0 -1", "0 0 1", "0 1 0", "1 0 0")))
        for text in ("", "0:1/4", "0:1/4 0:1/4", "0:1/4 2:3/4", "0:1/4 0:3/4", "0:1/2 1:1/2", "0:1/2 1:1/2 2:1/2",
                     "0:1/2 1:1/2 2:1/4 3:3/4"):
            some = stops(text)
            bounds = row(*(("1/2", "3") * 2)[:len(some)])
            lines = rows_of(told, some)
            expected = walls_by_hand(lines, bounds) if lines else found
            self.assertEqual(walls_of(told, [list(one) for one in some], list(bounds)), expected)

    def test_walls(self):
        for told, some, bounds in cases():
            found = walls_of(told, some, bounds)
            is_new_tuple(self, found)
            self.assertEqual(found, walls_by_hand(rows_of(told, some), bounds))

    def test_eight_stops(self):
        for told in (work(BOX), some_works()[4]):
            some = some_stops(told, 422, 8)
            bounds = row(*range(1, 9))
            self.assertEqual(walls_of(told, some, bounds), walls_by_hand(rows_of(told, some), bounds))

    def test_they_decide(self):
        told = work(TRIANGLE)
        for some in (TWO, stops("0:1/2 1:1/2 2:1/3"), stops("0:1/4 1:3/5 2:2/3 0:1/2"), stops("1:1/2")):
            lines, bounds = rows_of(told, some), row(*(1, 2, "1/3", 5)[:len(some)])
            walls = walls_of(told, some, bounds)
            for pull in some_pulls(423, 30, lines):
                inside = all(product(pull, motion) <= value(against) for motion, against in walls)
                self.assertEqual(inside, is_within_bounds(lines, pull, bounds))

    def test_refuses(self):
        refuses_stops(self, lambda some: walls_of(work(TRIANGLE), some, None))
        refuses_bounds(self, lambda some, bounds: walls_of(work(BOX), some, bounds))


def refuses_bounds(test, ask):
    """Ask that a function of stops and bounds checks these."""
    for thing in NO_SEQUENCES + ((), [], ONES[:1], ONES + ONES[:1], (1,)):
        refused(test, BadBounds, lambda: ask(TWO, thing), 0, "many")
    refused(test, BadBounds, lambda: ask((), ONES[:1]), 0, "many")
    refused(test, BadBounds, lambda: ask((), None), 0, "many")
    for thing in NO_RATIOS + ((0, 1), (-1, 1), (-1, GREAT)):
        refused(test, BadBounds, lambda: ask(TWO, (thing, None)), 0, "bound")
        refused(test, BadBounds, lambda: ask(TWO, [ratio(GREAT), thing]), 1, "bound")


def bounds_that_bear(lines, pull, chance):
    """Bounds that are just reached by some amounts that bear a pull, or None."""
    told = bear_target(lines, opposites(pull)) if lines else None
    if not isinstance(told, Amounts):
        return None
    return row(*[value(one) or chance.choice((1, Fraction(1, 3))) for one in told.amounts])


class WithinBounds(unittest.TestCase):

    def test_by_hand(self):
        told, pull = work(BOX), row("0 -1 -2")
        lists = ([list(one) for one in TWO], list(pull), list(row("1/8 1/8")))
        self.assertEqual(within_bounds(told, *lists), Pushes(row("1/8 1/8")))
        found = within_bounds(told, TWO, pull, row("1/8 1/9"))
        self.assertIsNone(strain_fault(told, TWO, pull, row("1/8 1/9"), found))
        three = TWO + stops("0:1/2")
        self.assertEqual(within_bounds(told, three, pull, row("1 1 1")), Pushes(row("0 0 1/4")))
        self.assertEqual(within_bounds(told, three, pull, row("1 1 1/8")), Pushes(row("1/16 1/16 1/8")))
        self.assertEqual(within_bounds(told, TWO, NO_PULL, ONES), Pushes(row("0 0")))
        self.assertEqual(within_bounds(told, (), NO_PULL, ()), Pushes(()))
        self.assertEqual(within_bounds(told, [], row("0 0 1/2"), []), Overborne(row("0 0 1")))
        facing = stops("0:1/2 2:1/2")
        self.assertEqual(within_bounds(told, facing, row("0 -1 -2"), ONES), Pushes(row("1/4 0")))
        self.assertEqual(within_bounds(told, facing, NO_PULL, ONES), Pushes(row("0 0")))

    def test_amounts(self):
        chance, kinds = random.Random(424), {}
        for told, some, bounds in cases():
            lines = rows_of(told, some)
            for pull in some_pulls(425, 3, lines):
                for let in (bounds, bounds_that_bear(lines, pull, chance)):
                    if let is not None:
                        kind = self.is_right(told, some, pull, let)
                        kinds[kind] = kinds.get(kind, 0) + 1
        self.assertGreater(min(kinds["Overborne"], kinds["Pushes"]), 40, kinds)

    def is_right(self, told, some, pull, bounds):
        lines = rows_of(told, some)
        found = within_bounds(told, some, pull, bounds)
        is_new_tuple(self, tuple(vars(found).values()))
        if is_within_bounds(lines, pull, bounds):
            self.assertEqual(found, Pushes(first_of_all(lines, pull, bounds)))
        else:
            self.assertIsInstance(found, Overborne)
            self.assertTrue(is_plain(found.motion))
            self.assertGreater(product(pull, found.motion), strength(lines, bounds, found.motion))
            self.assertIsNone(strain_fault(told, some, pull, bounds, found))
        return found.__class__.__name__

    def test_eight_stops(self):
        told = some_works()[4]
        some = some_stops(told, 426, 8)
        bounds = row(*range(1, 9))
        for pull in some_pulls(427, 4, rows_of(told, some)):
            self.is_right(told, some, pull, bounds)

    def test_just_reached(self):
        told = work(BOX)
        pull = row(0, -8 * GREAT, -16 * GREAT)
        self.assertEqual(within_bounds(told, TWO, pull, row(GREAT, GREAT)), Pushes(row(GREAT, GREAT)))
        less = row(GREAT, GREAT - Fraction(1, GREAT))
        self.assertIsInstance(within_bounds(told, TWO, pull, less), Overborne)
        self.assertIsNone(strain_fault(told, TWO, pull, less, within_bounds(told, TWO, pull, less)))

    def test_refuses(self):
        told = work(BOX)
        refuses_stops(self, lambda some: within_bounds(work(TRIANGLE), some, None, None))
        for thing in NO_MOTIONS:
            refused(self, BadPull, lambda: within_bounds(told, TWO, thing, None))
        refuses_bounds(self, lambda some, bounds: within_bounds(told, some, row("1 2 3"), bounds))


class LeastMultiple(unittest.TestCase):

    def test_by_hand(self):
        told, pull = work(BOX), row("0 -1 -2")
        lists = ([list(one) for one in TWO], list(pull), list(ONES))
        found = least_multiple(told, *lists)
        self.assertEqual((found.multiple, found.amounts), (ratio("1/8"), row("1/8 1/8")))
        self.assertEqual(least_multiple(told, TWO, pull, row("1/8 1")).multiple, ratio(1))
        self.assertEqual(least_multiple(told, TWO, pull, row("1/80 1")).multiple, ratio(10))
        self.assertEqual(least_multiple(told, TWO, NO_PULL, ONES), Strain(ratio(0), row("0 0"), None))
        self.assertEqual(least_multiple(told, (), NO_PULL, ()), Strain(ratio(0), (), None))
        self.assertEqual(least_multiple(told, (), row("0 0 1"), ()), Pulled(row("0 0 1")))
        self.assertIsInstance(least_multiple(told, TWO, row("0 1 0"), ONES), Pulled)

    def test_multiples(self):
        kinds = {}
        for told, some, bounds in cases():
            lines = rows_of(told, some)
            for pull in some_pulls(428, 3, lines):
                kind = self.is_right(told, some, pull, bounds)
                kinds[kind] = kinds.get(kind, 0) + 1
        self.assertGreater(min(kinds["Strain"], kinds["Pulled"]), 40, kinds)

    def is_right(self, told, some, pull, bounds):
        lines = rows_of(told, some)
        found = least_multiple(told, some, pull, bounds)
        is_new_tuple(self, tuple(vars(found).values()))
        self.assertIsNone(strain_fault(told, some, pull, bounds, found))
        self.assertEqual(isinstance(found, Strain), is_borne(told, some, pull))
        if isinstance(found, Pulled):
            self.assertTrue(is_plain(found.motion))
        else:
            least = multiple_by_costs(lines, pull, bounds) if lines else ratio(0)
            self.assertEqual(found.multiple, least)
            self.assertEqual(found.multiple == ratio(0), not any(values(pull)))
            self.assertEqual(row(*weighted(lines, found.amounts)) if lines else NO_PULL, opposites(pull))
            for amount, bound in zip(found.amounts, bounds):
                self.assertTrue(0 <= value(amount) <= value(least) * value(bound))
            if any(values(pull)):
                self.assertTrue(is_plain(found.motion))
                reached = value(least) * strength(lines, bounds, found.motion)
                self.assertTrue(0 < product(pull, found.motion) == reached)
        return found.__class__.__name__

    def test_eight_stops(self):
        told = some_works()[4]
        some = some_stops(told, 429, 8)
        for pull in some_pulls(430, 2, rows_of(told, some)):
            self.is_right(told, some, pull, row(*range(1, 9)))

    def test_refuses(self):
        told = work(BOX)
        refuses_stops(self, lambda some: least_multiple(work(TRIANGLE), some, None, None))
        for thing in NO_MOTIONS:
            refused(self, BadPull, lambda: least_multiple(told, TWO, thing, None))
        for pull in (NO_PULL, row("1 2 3"), row("0 -1 -2")):
            refuses_bounds(self, lambda some, bounds: least_multiple(told, some, pull, bounds))


class GreatestPush(unittest.TestCase):

    def test_by_hand(self):
        told = work(BOX)
        self.assertEqual(greatest_push(told, TWO, row("0 -1 -2")), ratio("1/8"))
        self.assertEqual(greatest_push(told, TWO, row("0 -1 -1")), ratio("1/4"))
        self.assertEqual(greatest_push(told, [list(one) for one in TWO], list(row("0 -2 -4"))), ratio("1/4"))
        self.assertEqual(greatest_push(told, TWO, NO_PULL), ratio(0))
        self.assertEqual(greatest_push(told, (), NO_PULL), ratio(0))
        self.assertIsNone(greatest_push(told, (), row("0 0 1")))
        self.assertIsNone(greatest_push(told, TWO, row("0 -1 -4")))
        self.assertEqual(greatest_push(told, TWO, row(0, -GREAT, -2 * GREAT)), ratio(Fraction(GREAT, 8)))

    def test_bounds_are_1(self):
        for told, some, _ in cases():
            for pull in some_pulls(431, 1, rows_of(told, some)):
                found = greatest_push(told, some, pull)
                if is_borne(told, some, pull):
                    lines = rows_of(told, some)
                    ones = row(*[1 for _ in some])
                    self.assertEqual(found, multiple_by_costs(lines, pull, ones) if lines else ratio(0))
                else:
                    self.assertIsNone(found)

    def test_refuses(self):
        refuses_stops(self, lambda some: greatest_push(work(TRIANGLE), some, None))
        for thing in NO_MOTIONS:
            for some in (TWO, ()):
                refused(self, BadPull, lambda: greatest_push(work(BOX), some, thing))


class Judge(unittest.TestCase):

    def strain(self, pull, multiple, amounts, motion):
        return strain_fault(work(BOX), TWO, pull, ONES, Strain(multiple, amounts, motion))

    def test_strain(self):
        pull, motion, amounts, eighth = row("0 -1 -2"), row("0 -3 1"), row("1/8 1/8"), ratio("1/8")
        self.assertIsNone(self.strain(pull, eighth, amounts, motion))
        self.assertIsNone(self.strain(list(pull), eighth, list(amounts), [ratio(2 * one) for one in (0, -3, 1)]))
        self.assertIsNone(self.strain(pull, eighth, amounts, row("0 1 -1")))
        for thing in NO_RATIOS + ((-1, 8), True, 0):
            self.assertEqual(self.strain(pull, thing, None, 7), "multiple")
        for thing in no_numbers(2):
            self.assertEqual(self.strain(pull, eighth, thing, 7), "amounts")
        self.assertEqual(self.strain(pull, eighth, row("-1/8 9"), 7), "below")
        self.assertEqual(self.strain(pull, eighth, row("9 -1/999"), 7), "below")
        self.assertEqual(self.strain(pull, eighth, row("1/8 1/7"), 7), "above")
        self.assertEqual(self.strain(pull, ratio(0), amounts, 7), "above")
        self.assertEqual(self.strain(pull, eighth, row("1/8 1/9"), 7), "sum")
        self.assertEqual(self.strain(row("0 -1 -1"), eighth, amounts, None), "sum")
        for thing in NO_MOTIONS:
            self.assertEqual(self.strain(pull, eighth, amounts, thing), "motion")
        self.assertEqual(self.strain(pull, eighth, amounts, row("0 3 -1")), "product")
        self.assertEqual(self.strain(pull, eighth, amounts, NO_PULL), "product")
        self.assertEqual(self.strain(pull, eighth, amounts, row("0 -3 2")), "product")
        self.assertEqual(self.strain(pull, ratio("1/7"), amounts, motion), "product")

    def test_rest_pull(self):
        none = row("0 0")
        self.assertIsNone(self.strain(NO_PULL, ratio(0), none, None))
        self.assertIsNone(self.strain(NO_PULL, ratio(5), none, None))
        self.assertIsNone(self.strain(list(NO_PULL), ratio(0), list(none), None))
        self.assertEqual(self.strain(NO_PULL, ratio(0), none, row("0 -3 1")), "motion")
        self.assertEqual(self.strain(NO_PULL, ratio(0), none, 7), "motion")
        self.assertEqual(self.strain(NO_PULL, ratio(-1), none, None), "multiple")

    def test_bounds_count(self):
        told, pull = work(BOX), row("0 -1 -2")
        bounds = row("1/16 1")
        right = Strain(ratio(2), row("1/8 1/8"), row("0 -3 1"))
        self.assertIsNone(strain_fault(told, TWO, pull, bounds, right))
        self.assertEqual(strain_fault(told, TWO, pull, ONES, right), "product")
        right.multiple = ratio("1/8")
        self.assertEqual(strain_fault(told, TWO, pull, bounds, right), "above")

    def test_overborne(self):
        told, pull = work(BOX), row("0 -16 -32")
        self.assertIsNone(strain_fault(told, TWO, pull, ONES, Overborne(row("0 -3 1"))))
        self.assertIsNone(strain_fault(told, TWO, pull, ONES, Overborne([ratio(0), ratio(-6), ratio(2)])))
        for thing in NO_MOTIONS + (None,):
            self.assertEqual(strain_fault(told, TWO, pull, ONES, Overborne(thing)), "motion")
        for thing in (NO_PULL, row("0 3 -1"), row("1 0 0"), row("0 -1 1")):
            self.assertEqual(strain_fault(told, TWO, pull, ONES, Overborne(thing)), "product")
        # A product that is just the strength shows nothing.
        self.assertEqual(strain_fault(told, TWO, row("0 -8 -16"), ONES, Overborne(row("0 -3 1"))), "product")
        self.assertEqual(strain_fault(told, TWO, NO_PULL, ONES, Overborne(NO_PULL)), "product")

    def test_pulled(self):
        told, pull = work(BOX), row("1 -1 -2")
        self.assertIsNone(strain_fault(told, TWO, pull, ONES, Pulled(row("1 0 0"))))
        self.assertIsNone(strain_fault(told, TWO, pull, ONES, Pulled(row("1/2 0 0"))))
        for thing in NO_MOTIONS:
            self.assertEqual(strain_fault(told, TWO, pull, ONES, Pulled(thing)), "motion")
        self.assertEqual(strain_fault(told, TWO, pull, ONES, Pulled(row("1 -9 0"))), "barred")
        self.assertEqual(strain_fault(told, TWO, pull, ONES, Pulled(row("-1 0 0"))), "product")
        self.assertEqual(strain_fault(told, TWO, pull, ONES, Pulled(NO_PULL)), "product")

    def test_other_things(self):
        told, pull = work(BOX), row("0 -1 -2")
        for thing in (None, 0, "result", (), row("1/8 1/8"), Pushes(row("1/8 1/8")), object(), Strain, Overborne):
            self.assertEqual(strain_fault(told, TWO, pull, ONES, thing), "result")

    def test_classes(self):
        is_result(self, Overborne, {"motion": row("1 0 0")}, (None, [], row("0 1 0")))
        attributes = {"multiple": ratio(1), "amounts": row("1 1"), "motion": row("1 0 0")}
        is_result(self, Strain, attributes, (None, [], ratio(2)))
        self.assertFalse(Overborne(row("1 0 0")) == Pulled(row("1 0 0")))
        self.assertFalse(Pulled(row("1 0 0")) == Overborne(row("1 0 0")))


if __name__ == "__main__":
    unittest.main()
