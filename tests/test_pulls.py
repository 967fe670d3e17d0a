"""[7.1], [7.2], [7.3]: pulls, pulls led along, borne pulls, and the judge."""

import unittest
from fractions import Fraction

from firmstops.errors import BadDirection, BadPlace, BadPull, BadSize
from firmstops.pulls import NO_PULL, Pulled, Pushes
from firmstops.pulls import bear_pull, bear_pull_fault, first_unborne, grown_pull, is_borne, mirrored_pull, pull_at
from firmstops.pulls import pulls_sum, shifted_pull, turned_pull
from firmstops.pushes import rows_of
from firmstops.stops import mirrored_stops

from helpers import BOX, NO_COUPLES, NO_DIRECTIONS, NO_MOTIONS, NO_RATIOS, NO_SEQUENCES, TRIANGLE
from helpers import are_firm, hold_cases, is_free_of, is_new_tuple, is_plain, is_result, lean_solutions, no_numbers
from helpers import product, ratio, refused, refuses_stops, row, rows, some_pulls, some_stops, some_works, stops, values
from helpers import weighted, work

GREAT = 10 ** 280 + 3
TWO = stops("0:1/4 0:3/4")


class Pulls(unittest.TestCase):

    def test_pull_at(self):
        self.assertEqual(NO_PULL, row("0 0 0"))
        is_new_tuple(self, NO_PULL)
        self.assertEqual(pull_at(row("2 1"), row("0 -1")), row("0 -1 -2"))
        self.assertEqual(pull_at(list(row("1/2 -3")), list(row("2/3 5"))), row("2/3 5 9/2"))
        is_new_tuple(self, pull_at(list(row("1/2 -3")), list(row("2/3 5"))))
        for thing in NO_COUPLES:
            refused(self, BadPlace, lambda: pull_at(thing, None))
        for thing in NO_DIRECTIONS:
            refused(self, BadDirection, lambda: pull_at(row("0 0"), thing))

    def test_sums(self):
        self.assertEqual(pulls_sum(()), NO_PULL)
        self.assertEqual(pulls_sum([]), NO_PULL)
        self.assertEqual(pulls_sum(rows("1 2 3", "1/2 -2 1/7")), row("3/2 0 22/7"))
        self.assertEqual(pulls_sum([list(row("1 2 3"))] * 24), row("24 48 72"))
        is_new_tuple(self, pulls_sum([list(row("1 2 3"))]))
        for thing in NO_SEQUENCES:
            refused(self, BadPull, lambda: pulls_sum(thing))
        for thing in NO_MOTIONS:
            refused(self, BadPull, lambda: pulls_sum([row("1 2 3"), thing]))
            refused(self, BadPull, lambda: pulls_sum((thing, NO_PULL)))

    def test_led_along_by_hand(self):
        pull = list(row("3 -5 7"))
        self.assertEqual(shifted_pull(pull, list(row("2 1/2"))), row("3 -5 -9/2"))
        self.assertEqual(turned_pull(pull), row("5 3 7"))
        self.assertEqual(mirrored_pull(pull), row("-3 -5 -7"))
        self.assertEqual(grown_pull(pull, ratio("2/3")), row("3 -5 14/3"))
        for found in (shifted_pull(pull, row("1 1")), turned_pull(pull), mirrored_pull(pull), grown_pull(pull, ratio(1))):
            is_new_tuple(self, found)
        place, direction = row("2 -3/2"), row("5 1/3")
        self.assertEqual(shifted_pull(pull_at(place, direction), row("7 1")), pull_at(row("9 -1/2"), direction))
        self.assertEqual(turned_pull(pull_at(place, direction)), pull_at(row("3/2 2"), row("-1/3 5")))
        self.assertEqual(mirrored_pull(pull_at(place, direction)), pull_at(row("-2 -3/2"), row("-5 1/3")))
        self.assertEqual(grown_pull(pull_at(place, direction), ratio(4)), pull_at(row("8 -6"), direction))

    def test_led_along_and_borne(self):
        by, size, seen = row("7/3 -5"), ratio("3/7"), {True: 0, False: 0}
        for told in some_works():
            for seed in range(3):
                some = some_stops(told, 270 + seed, 2 + seed)
                for pull in some_pulls(271 + seed, 6, rows_of(told, some)):
                    borne = is_borne(told, some, pull)
                    seen[borne] += 1
                    self.assertEqual(is_borne(told.shifted(by), some, shifted_pull(pull, by)), borne)
                    self.assertEqual(is_borne(told.turned(), some, turned_pull(pull)), borne)
                    self.assertEqual(is_borne(told.grown(size), some, grown_pull(pull, size)), borne)
                    mirrored = mirrored_stops(told, some)
                    self.assertEqual(is_borne(told.mirrored(), mirrored, mirrored_pull(pull)), borne)
        self.assertGreater(min(seen.values()), 20)

    def test_led_along_refuses(self):
        for thing in NO_MOTIONS:
            for ask in (turned_pull, mirrored_pull, lambda one: shifted_pull(one, None),
                        lambda one: grown_pull(one, None)):
                refused(self, BadPull, lambda: ask(thing))
        for thing in NO_COUPLES:
            refused(self, BadPlace, lambda: shifted_pull(NO_PULL, thing))
        for thing in NO_RATIOS + (ratio(0), ratio(-1), ratio("-1/2")):
            refused(self, BadSize, lambda: grown_pull(NO_PULL, thing))


class Borne(unittest.TestCase):

    def test_the_example(self):
        told = work(BOX)
        self.assertEqual(bear_pull(told, TWO, row("0 -1 -2")), Pushes(row("1/8 1/8")))
        self.assertEqual(bear_pull(told, [list(one) for one in TWO], list(row("0 -1 -2"))), Pushes(row("1/8 1/8")))
        for text, borne in (("0 -1 -1", True), ("0 -1 -3", True), ("0 -1 -4", False), ("0 -1 -1/2", False),
                            ("0 1 2", False), ("1 -1 -2", False), ("0 0 0", True), ("0 0 1", False)):
            self.assertIs(is_borne(told, TWO, row(text)), borne, text)

    def test_no_stops(self):
        told = work(BOX)
        for some in ((), []):
            self.assertEqual(bear_pull(told, some, list(NO_PULL)), Pushes(()))
            self.assertIs(is_borne(told, some, NO_PULL), True)
            for pull in rows("1 0 0", "0 -1/2 0", "0 0 3", "2 4 6") + (row(GREAT, 0, Fraction(-1, GREAT)),):
                self.is_pulled(bear_pull(told, some, pull), (), pull)
                self.assertIs(is_borne(told, some, pull), False)

    def is_pulled(self, found, lines, pull):
        self.assertIsInstance(found, Pulled)
        is_new_tuple(self, found.motion)
        self.assertTrue(is_plain(found.motion))
        self.assertTrue(is_free_of(lines, values(found.motion)))
        self.assertGreater(product(found.motion, pull), 0)

    def test_results(self):
        seen = {Pushes: 0, Pulled: 0}
        for told, some in list(hold_cases(5)) + [(told, some_stops(told, 272, 8)) for told in some_works()]:
            lines = rows_of(told, some)
            for pull in some_pulls(273, 4, lines):
                found = bear_pull(told, some, pull)
                seen[found.__class__] += 1
                aim = row(*[-one for one in values(pull)])
                if lines:
                    borne = len(lean_solutions(lines, aim)) > 0
                    self.assertEqual(isinstance(found, Pushes), borne)
                self.assertIs(is_borne(told, some, pull), isinstance(found, Pushes))
                self.assertIsNone(bear_pull_fault(told, some, pull, found))
                if isinstance(found, Pulled):
                    self.is_pulled(found, lines, pull)
                else:
                    is_new_tuple(self, found.amounts)
                    self.assertEqual(len(found.amounts), len(some))
                    self.assertTrue(all(one >= 0 for one in values(found.amounts)))
                    if lines:
                        self.assertEqual(row(*weighted(lines, found.amounts)), aim)
                if are_firm(lines):
                    self.assertIsInstance(found, Pushes)
        self.assertGreater(min(seen.values()), 40)

    def test_great_numbers(self):
        told = work(BOX)
        self.assertEqual(bear_pull(told, TWO, row(0, -GREAT, -2 * GREAT)), Pushes(row(Fraction(GREAT, 8), Fraction(GREAT, 8))))
        self.is_pulled(bear_pull(told, TWO, row(0, -GREAT, -3 * GREAT - 1)), rows_of(told, TWO),
                       row(0, -GREAT, -3 * GREAT - 1))
        self.assertIs(is_borne(told, TWO, row(0, -GREAT, -3 * GREAT)), True)

    def test_first_unborne(self):
        told = work(BOX)
        good, bad = row("0 -1 -2"), row("0 -1 -4")
        for some, expected in (((), None), ([], None), ((good,), None), ((bad,), 0), ([list(good), bad, good, bad], 1),
                               ((good,) * 24, None), ((good,) * 23 + (bad,), 23), ((NO_PULL, good, good, bad), 3)):
            self.assertEqual(first_unborne(told, TWO, some), expected)
        self.assertIsNone(first_unborne(told, (), (NO_PULL, NO_PULL)))
        self.assertEqual(first_unborne(told, (), (NO_PULL, good)), 1)

    def test_stops_come_first_then_pulls(self):
        told = work(TRIANGLE)
        refuses_stops(self, lambda some: bear_pull(told, some, None), lambda some: is_borne(told, some, None),
                      lambda some: first_unborne(told, some, None))
        for some in ((), stops("0:1/4 1:1/2")):
            for thing in NO_MOTIONS:
                refused(self, BadPull, lambda: bear_pull(told, some, thing))
                refused(self, BadPull, lambda: is_borne(told, some, thing))
                refused(self, BadPull, lambda: first_unborne(told, some, [row("9 9 9"), thing]))
            for thing in NO_SEQUENCES:
                refused(self, BadPull, lambda: first_unborne(told, some, thing))

    def test_classes(self):
        is_result(self, Pushes, {"amounts": [ratio(1), "x"]}, (None, (), [ratio(2), "x"]))
        is_result(self, Pulled, {"motion": {"any": 1}}, (None, row("1 2 3"), {}))
        self.assertFalse(Pushes(row("1 1 1")) == Pulled(row("1 1 1")))
        self.assertFalse(Pulled(row("1 1 1")) == Pushes(row("1 1 1")))


class Judge(unittest.TestCase):

    def word(self, expected, result, some=TWO, pull=row("0 -1 -2")):
        self.assertEqual(bear_pull_fault(work(BOX), some, pull, result), expected)

    def test_right_results(self):
        self.word(None, Pushes(row("1/8 1/8")))
        self.word(None, Pushes(list(row("1/8 1/8"))))
        self.word(None, Pushes(()), (), NO_PULL)
        self.word(None, Pushes([]), [], list(NO_PULL))
        self.word(None, Pushes(row("0 0")), TWO, NO_PULL)
        for motion in (row("0 3 -1"), row("0 3/2 -1/2"), list(row("0 6 -2")), row(GREAT, 3, -1)):
            self.word(None, Pulled(motion), TWO, row("0 -1 -4"))

    def test_amounts(self):
        for amounts in no_numbers(2):
            self.word("amounts", Pushes(amounts))
            self.word("amounts", Pushes(amounts), TWO, NO_PULL)
        for amounts in (None, row("1"), [None]):
            self.word("amounts", Pushes(amounts), ())

    def test_below(self):
        for amounts in (row("-1 1"), row("1/8 -1/8"), row(1, Fraction(-1, GREAT))):
            self.word("below", Pushes(amounts))
        # These sum up to zeros with the pull, but one of them is below 0.
        self.word("below", Pushes(row("-1/8 3/8")), TWO, row("0 -1 -4"))

    def test_sum(self):
        for amounts in (row("1/8 1/4"), row("0 0"), row("1 1"), row(Fraction(1, 8), Fraction(1, 8) + Fraction(1, GREAT))):
            self.word("sum", Pushes(amounts))
        self.word("sum", Pushes(row("1/8 1/8")), TWO, row("0 1 2"))
        self.word("sum", Pushes(row("1/8 1/8")), TWO, row("0 -1 -1"))
        self.word("sum", Pushes(()), ())

    def test_motion(self):
        for motion in NO_MOTIONS:
            self.word("motion", Pulled(motion))
            self.word("motion", Pulled(motion), ())

    def test_barred(self):
        for motion in (row("0 -1 0"), row("0 -3 1"), row("0 0 -1"), row(0, 1, -2), row("0 2 -1")):
            self.word("barred", Pulled(motion), TWO, row("0 -1 -4"))
        self.word("barred", Pulled(row("0 -1 1/2")))

    def test_product(self):
        for motion in (row("0 0 0"), row("0 3 -1"), row("0 1 0"), row("1 0 0"), list(row("0 -1 1"))):
            self.word("product", Pulled(motion))
        self.word("product", Pulled(row("1 0 0")), (), row("0 1 0"))
        self.word("product", Pulled(row("1 0 0")), (), row(Fraction(-1, GREAT), 1, 0))
        self.word(None, Pulled(row("1 0 0")), (), row(Fraction(1, GREAT), 1, 0))

    def test_result(self):
        for thing in (None, row("1/8 1/8"), row("0 3 -2"), "Pushes", 1, object(), [Pushes(row("1/8 1/8"))]):
            self.word("result", thing)


if __name__ == "__main__":
    unittest.main()
