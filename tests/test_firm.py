"""[4.1], [4.2], [4.3], [4.4]: firm stops, free motions, what stops lack, and the judges."""

import unittest
from fractions import Fraction

from firmstops.firm import Firm, Free, firm_fault, firm_lack, firm_or_free, free_fault, is_firm, meet_of
from firmstops.pushes import rows_of
from firmstops.works import Work

from helpers import BOX, NO_MOTIONS, SQUARE, TRIANGLE
from helpers import are_firm, is_balance, is_free_of, is_new_tuple, is_plain, is_result, no_numbers, rank, ratio
from helpers import refuses_stops, row, some_stops, some_works, stops, value, values, work

GREAT = 10 ** 290 + 3
FIRM = stops("0:1/2 1:1/2 2:1/4 3:3/4")
MEET = stops("0:1/2 1:1/2 2:1/2 3:1/2")


def cases(most=8):
    """Works with stops of all numbers, and some that were chosen by hand."""
    for told in some_works():
        for many in range(most + 1):
            for seed in (150, 160, 170):
                yield told, some_stops(told, seed + many, many)
    for text in ("0:1/2 1:1/2 2:1/4 3:3/4", "0:1/2 1:1/2 2:1/2 3:1/2", "0:1/2 0:1/2 0:1/2", "0:1/4 0:1/2 2:1/4 2:3/4",
                 "0:1/4 0:3/4 2:1/2 1:1/2 3:1/2", "0:1/2 2:1/2", "0:1/4 0:3/4 1:1/4 3:1/2"):
        yield work(BOX), stops(text)


class IsFirm(unittest.TestCase):

    def test_by_hand(self):
        self.assertIs(is_firm(work(BOX), FIRM), True)
        self.assertIs(is_firm(work(BOX), MEET), False)
        self.assertIs(is_firm(work(BOX), stops("0:1/2 1:1/2 2:3/4 3:3/4")), False)
        self.assertIs(is_firm(work(TRIANGLE), stops("0:1/4 1:3/5 2:2/3")), False)
        self.assertIs(is_firm(work(TRIANGLE), stops("0:1/8 0:1/2 1:3/5 2:2/3")), True)
        self.assertIs(is_firm(work(BOX), []), False)

    def test_the_least_change_of_a_spot(self):
        tiny = Fraction(1, GREAT)
        meet = stops("0:1/2 1:1/2 2:1/2")
        self.assertTrue(is_firm(work(BOX), meet + ((3, ratio(Fraction(1, 2) + tiny)), (3, ratio(Fraction(1, 2) - tiny)))))
        self.assertFalse(is_firm(work(BOX), meet + ((3, ratio(Fraction(1, 2) + tiny)), (3, ratio("3/4")))))

    def test_firm_or_not(self):
        found = {True: 0, False: 0}
        for told, some in cases():
            expected = are_firm(rows_of(told, some))
            self.assertIs(is_firm(told, [list(one) for one in some]), expected)
            found[expected] += 1
            if expected:
                self.assertGreaterEqual(len(some), 4)
        self.assertGreater(min(found.values()), 20)

    def test_stops_come_first(self):
        told = work(TRIANGLE)
        refuses_stops(self, lambda some: is_firm(told, some), lambda some: firm_or_free(told, some),
                      lambda some: firm_lack(told, some), lambda some: meet_of(told, some))


class FirmOrFree(unittest.TestCase):

    def test_results(self):
        kinds = {Firm: 0, Free: 0}
        for told, some in cases():
            lines = rows_of(told, some)
            result = firm_or_free(told, [list(one) for one in some])
            kinds[result.__class__] += 1
            if are_firm(lines):
                self.assertIsInstance(result, Firm)
                is_new_tuple(self, result.amounts)
                self.assertTrue(is_plain(result.amounts))
                self.assertTrue(is_balance(lines, result.amounts))
                self.assertIsNone(firm_fault(told, some, result))
                self.assertIsNone(firm_fault(told, list(some), Firm(list(result.amounts))))
            else:
                self.assertIsInstance(result, Free)
                is_new_tuple(self, result.motion)
                self.assertEqual(len(result.motion), 3)
                self.assertTrue(any(values(result.motion)))
                self.assertTrue(is_free_of(lines, values(result.motion)))
                self.assertIsNone(free_fault(told, some, result))
                self.assertIsNone(free_fault(told, list(some), Free(list(result.motion))))
        self.assertGreater(min(kinds.values()), 20)

    def test_classes(self):
        is_result(self, Firm, {"amounts": [ratio(1), "x"]}, (None, (), [ratio(2), "x"]))
        is_result(self, Free, {"motion": {"any": 1}}, (None, row("1 2 3"), {}))
        self.assertFalse(Firm(row("1 1 1")) == Free(row("1 1 1")))
        self.assertFalse(Free(row("1 1 1")) == Firm(row("1 1 1")))


class Judges(unittest.TestCase):

    def firm_word(self, amounts, expected, some=FIRM):
        self.assertEqual(firm_fault(work(BOX), some, Firm(amounts)), expected)

    def test_right_amounts_need_not_be_plain(self):
        plain = values(firm_or_free(work(BOX), FIRM).amounts)
        for by in (1, 2, Fraction(1, 7), GREAT, Fraction(3, GREAT)):
            self.firm_word(row(*[by * one for one in plain]), None)
            self.firm_word([ratio(by * one) for one in plain], None)

    def test_amounts(self):
        for amounts in no_numbers(4) + [row("1 1 1 0"), row("0 0 0 0"), row("-1 -1 -1 -1"), row("1 2 -1 1")]:
            self.firm_word(amounts, "amounts")
            self.firm_word(amounts, "amounts", MEET)
        for amounts in (None, row("1"), [None], 0):
            self.firm_word(amounts, "amounts", ())

    def test_sum(self):
        right = values(firm_or_free(work(BOX), FIRM).amounts)
        for at in range(4):
            self.firm_word(row(*[one + (k == at) for k, one in enumerate(right)]), "sum")
            self.firm_word(row(*[one + (k == at) * Fraction(1, GREAT) for k, one in enumerate(right)]), "sum")
        self.firm_word(row("1 1 1 2"), "sum", MEET)
        self.firm_word(row("1"), "sum", FIRM[:1])

    def test_rank(self):
        self.firm_word(row("1 2 1 2"), "rank", MEET)
        self.firm_word(row("1 1 1 1"), "rank", MEET)
        self.firm_word([ratio("1/2")] * 4, "rank", MEET)
        self.firm_word(row("1 1"), "rank", stops("0:1/2 2:1/2"))
        self.firm_word((), "rank", ())
        self.firm_word([], "rank", [])

    def test_free_words(self):
        told = work(BOX)
        for motion in NO_MOTIONS:
            self.assertEqual(free_fault(told, MEET, Free(motion)), "motion")
            self.assertEqual(free_fault(told, (), Free(motion)), "motion")
        for some in (FIRM, MEET, (), []):
            self.assertEqual(free_fault(told, some, Free(row("0 0 0"))), "rest")
            self.assertEqual(free_fault(told, some, Free(list(row("0 0 0")))), "rest")
        for motion in (row("1 -2 1"), [ratio("1/2"), ratio(-1), ratio("1/2")], row("-1 2 -1")):
            self.assertIsNone(free_fault(told, MEET, Free(motion)))
        for motion in (row("1 0 0"), row("1 -2 2"), row(GREAT, -2 * GREAT, GREAT - 1)):
            self.assertEqual(free_fault(told, MEET, Free(motion)), "barred")
        self.assertIsNone(free_fault(told, (), Free(row(GREAT, Fraction(1, GREAT), -GREAT))))
        for motion in (row("1 0 0"), row("-3 0 0"), [ratio("1/2"), ratio(0), ratio(0)]):
            self.assertIsNone(free_fault(told, stops("0:1/2 2:1/4"), Free(motion)))


class Lack(unittest.TestCase):

    def test_by_hand(self):
        told = work(BOX)
        self.assertIsNone(firm_lack(told, FIRM))
        for text in ("", "0:1/2", "0:1/2 0:1/2 0:1/2 0:1/2", "0:1/4 0:1/2 2:1/4 2:1/2", "0:1/2 1:1/2 2:1/2 3:1/2"):
            self.assertEqual(firm_lack(told, stops(text)), "rank", text)
        for text in ("0:1/4 0:1/2 1:1/2", "0:1/4 0:1/2 1:1/2 2:1/4", "0:1/2 1:1/2 2:3/4 3:3/4"):
            self.assertEqual(firm_lack(told, stops(text)), "balance", text)

    def test_lacks(self):
        found = {}
        for told, some in cases():
            lines = rows_of(told, some)
            lack = firm_lack(told, [list(one) for one in some])
            expected = None if are_firm(lines) else ("rank" if rank(lines) < 3 else "balance")
            self.assertEqual(lack, expected)
            found[lack] = found.get(lack, 0) + 1
        self.assertEqual(set(found), {None, "rank", "balance"})

    def test_meet_by_hand(self):
        told = work(BOX)
        for text, expected in (
            ("", ("all",)),
            ("0:1/4", ("line", row("1 0"), row("0 1"))),
            ("2:1/4", ("line", row("3 0"), row("0 1"))),
            ("1:1/4", ("line", row("0 1/2"), row("1 0"))),
            ("0:1/2 2:1/2", ("line", row("2 0"), row("0 1"))),
            ("1:1/4 1:1/4 3:3/4", ("line", row("0 1/2"), row("1 0"))),
            ("0:1/2 2:1/4", ("direction", row("0 1"))),
            ("0:1/2 0:1/4 0:1/4", ("direction", row("0 1"))),
            ("3:1/2 1:1/4", ("direction", row("1 0"))),
            ("0:1/4 1:1/4", ("place", row("1 1/2"))),
            ("0:1/2 1:1/2 2:1/2 3:1/2", ("place", row("2 1"))),
            ("0:1/2 1:1/2 2:1/2 3:1/4", None),
        ):
            self.assertEqual(meet_of(told, stops(text)), expected, text)
            self.assertEqual(meet_of(told, [list(one) for one in stops(text)]), expected, text)
        triangle = work(TRIANGLE)
        self.assertEqual(meet_of(triangle, stops("0:1/4 1:3/5 2:2/3")), ("place", row("1 1")))
        self.assertEqual(meet_of(triangle, stops("1:3/5")), ("line", row("4/25 -3/25"), row("3 4")))
        self.assertEqual(meet_of(work(SQUARE), stops("0:1/3 1:1/3")), ("place", row("1/3 1/3")))

    def test_the_direction_has_its_first_number_above_zero(self):
        told = work("0,0 4,1 3,5 -1,4")
        self.assertEqual(meet_of(told, stops("0:1/2 0:1/4")), ("direction", row("1 -4")))
        self.assertEqual(meet_of(told, stops("2:1/2 0:1/4")), ("direction", row("1 -4")))
        self.assertEqual(meet_of(told, stops("2:1/2"))[2], row("1 -4"))
        self.assertEqual(meet_of(told, stops("3:1/2"))[2], row("4 1"))

    def test_meets(self):
        kinds = {}
        for told, some in cases(4):
            lines = rows_of(told, some)
            meet = meet_of(told, some)
            kind = None if meet is None else meet[0]
            kinds[kind] = kinds.get(kind, 0) + 1
            self.assertEqual(meet is None, rank(lines) == 3)
            if meet is not None:
                is_new_tuple(self, meet)
                self.assertEqual({"all": 0, "line": 1, "place": 2, "direction": 2}[kind], rank(lines))
                self.is_right(meet, lines)
        self.assertEqual(set(kinds), {None, "all", "line", "place", "direction"})

    def is_right(self, meet, lines):
        for line in lines:
            nx, ny, turn = values(line)
            if meet[0] in ("line", "place"):
                x, y = values(meet[1])
                self.assertEqual(x * ny - y * nx, turn)
            if meet[0] == "line":
                self.assertEqual(value(meet[1][0]) * nx + value(meet[1][1]) * ny, 0)
            if meet[0] in ("line", "direction"):
                dx, dy = values(meet[-1])
                self.assertEqual(dx * ny - dy * nx, 0)
                self.assertTrue(is_plain(meet[-1]))
                self.assertGreater((dx, dy), (0, 0))

    def test_great_numbers(self):
        told = Work([row(0, 0), row(GREAT, 0), row(GREAT, GREAT - 1), row(0, GREAT - 1)])
        spot = ratio(Fraction(1, GREAT))
        self.assertEqual(meet_of(told, [(0, spot)]), ("line", row("1 0"), row("0 1")))
        self.assertEqual(meet_of(told, [(0, spot), (1, ratio("1/2"))]), ("place", row(1, Fraction(GREAT - 1, 2))))
        slant = Work([row(0, 0), row(GREAT, 1), row(0, GREAT)])
        self.assertEqual(meet_of(slant, [(0, spot)])[2], row(1, -GREAT))


if __name__ == "__main__":
    unittest.main()
