"""[10.3], [10.4], [10.5]: pairs that are firm or free, pulls on pairs, and the judges."""

import random
import unittest
from fractions import Fraction

from firmstops.errors import BadPull, BadStop
from firmstops.firm import is_firm
from firmstops.pairpushes import PairFirm, PairFree, PairPulled, PairPushes
from firmstops.pairpushes import pair_bear, pair_fault, pair_pull_fault, pair_verdict, touch_place
from firmstops.pairs import Pair, pair_rows
from firmstops.pulls import is_borne
from firmstops.pushes import row_at, rows_of
from firmstops.works import Work

from helpers import BOX, NO_MOTIONS, NO_STOPS, TRIANGLE, Alike
from helpers import are_firm, is_new_tuple, is_result, no_numbers, pair_stops, product, rank, ratio, refused, row
from helpers import some_pulls, some_touching, stops, value, values, weighted, work

GREAT = 10 ** 280 + 3
ROOF = "1,2 3,2 2,4"
# Below the middle of the roof the box is pushed down, right of where it stands: its sides turn it back.
FIVE = (stops("0:1/4 1:3/4 3:3/4"), stops("1:1/2 2:1/2"))
FIVE_AMOUNTS = row("1 2 2 2 2 1/2 1/2")
REST = row("0 0 0")


def roofed():
    return Pair(work(BOX), work(ROOF))


def cases():
    """Pairs with stops of both."""
    for at, (one, other, _, _) in enumerate(some_touching(590)):
        pair = Pair(one, other)
        for stops_one, stops_other in pair_stops(one, other, 591 + at):
            yield pair, stops_one, stops_other
    yield (roofed(),) + FIVE
    yield (roofed().swapped(),) + FIVE[::-1]


def refuses_both(test, ask):
    """Ask that stops of both works are checked, wholly those of one first."""
    pair = Pair(work(TRIANGLE), work("4,0 4,3 0,3"))
    good, many = stops("0:1/2"), stops("0:1/2") * 7
    for some, index, what in NO_STOPS:
        refused(test, BadStop, lambda: ask(pair, some, many), index, what)
        refused(test, BadStop, lambda: ask(pair, good, some), index, what)
    for more in (many, list(many), [None] * 7):
        refused(test, BadStop, lambda: ask(pair, more, None), 0, "many")
        refused(test, BadStop, lambda: ask(pair, (), more), 0, "many")
    refused(test, BadStop, lambda: ask(pair, good + ((5, (1, 2)),), many), 1, "side")


def bars_none(sixes, motions):
    """Whether no six has a product below 0 with the six of motions."""
    return all(product(six, motions) >= 0 for six in sixes)


class Verdict(unittest.TestCase):

    def test_five_stops(self):
        found = pair_verdict(roofed(), *FIVE)
        self.assertIsInstance(found, PairFirm)
        # With five stops and rank 6 there is one balance but for its size.
        size = value(found.amounts[0])
        self.assertEqual(found.amounts, row(*[size * one for one in values(FIVE_AMOUNTS)]))
        self.assertIsNone(pair_fault(roofed(), *FIVE, PairFirm(FIVE_AMOUNTS)))

    def test_four_are_too_few(self):
        every = [(0, stop) for stop in FIVE[0]] + [(1, stop) for stop in FIVE[1]]
        for left in range(5):
            some = [tuple(stop for at, (which, stop) in enumerate(every) if which == k and at != left) for k in (0, 1)]
            found = pair_verdict(roofed(), *some)
            self.assertIsInstance(found, PairFree)
            self.assertIsNone(pair_fault(roofed(), *some, found))

    def test_no_stops(self):
        for one, other, _, _ in some_touching(592):
            found = pair_verdict(Pair(one, other), (), [])
            self.assertIsInstance(found, PairFree)
            self.assertIsNone(pair_fault(Pair(one, other), (), (), found))

    def test_all(self):
        kinds = {}
        for pair, stops_one, stops_other in cases():
            sixes = pair_rows(pair, stops_one, stops_other)
            found = pair_verdict(pair, stops_one, stops_other)
            is_new_tuple(self, tuple(vars(found).values()))
            self.assertIsNone(pair_fault(pair, stops_one, stops_other, found))
            kinds[found.__class__] = kinds.get(found.__class__, 0) + 1
            if isinstance(found, PairFirm):
                self.assertEqual(len(found.amounts), len(sixes))
                self.assertTrue(all(value(one) > 0 for one in found.amounts))
                self.assertFalse(any(weighted(sixes, found.amounts)))
                self.assertEqual(rank(sixes), 6)
                self.assertGreaterEqual(len(stops_one) + len(stops_other), 5)
                self.assertTrue(are_firm(rows_of(pair.one, stops_one) + rows_of(pair.other, stops_other)))
            else:
                self.assertIsInstance(found, PairFree)
                self.assertEqual((len(found.one), len(found.other)), (3, 3))
                self.assertNotEqual((found.one, found.other), (REST, REST))
                self.assertTrue(bars_none(sixes, found.one + found.other))
        self.assertGreater(min(kinds.values()), 80)

    def test_one_is_firm_with_its_own(self):
        counts = {}
        for pair, stops_one, stops_other in cases():
            for told, some, others in ((pair, stops_one, stops_other), (pair.swapped(), stops_other, stops_one)):
                if are_firm(rows_of(told.one, some)):
                    normal = told.other.normals[told.sides[1]]
                    lines = rows_of(told.other, others) + tuple(row_at(end, normal) for end in told.ends)
                    firm = are_firm(lines)
                    self.assertEqual(isinstance(pair_verdict(told, some, others), PairFirm), firm)
                    counts[firm] = counts.get(firm, 0) + 1
        self.assertEqual(set(counts), {True, False})
        self.assertGreater(min(counts.values()), 20)

    def test_swapped(self):
        for pair, stops_one, stops_other in list(cases())[::3]:
            self.assertEqual(isinstance(pair_verdict(pair, stops_one, stops_other), PairFirm),
                             isinstance(pair_verdict(pair.swapped(), stops_other, stops_one), PairFirm))

    def test_both_firm(self):
        # If both are firm with their own stops, the pair is firm.
        counts = 0
        for pair, stops_one, stops_other in cases():
            if is_firm(pair.one, stops_one) and is_firm(pair.other, stops_other):
                self.assertIsInstance(pair_verdict(pair, stops_one, stops_other), PairFirm)
                counts += 1
        self.assertGreater(counts, 10)

    def test_lists(self):
        some = [[list(stop) for stop in told] for told in FIVE]
        self.assertEqual(pair_verdict(roofed(), *some), pair_verdict(roofed(), *FIVE))

    def test_great_numbers(self):
        told = Pair(work(BOX).grown(ratio(GREAT)), work(ROOF).grown(ratio(GREAT)))
        self.assertIsInstance(pair_verdict(told, *FIVE), PairFirm)
        moved = ((0, ratio(Fraction(1, 4) + Fraction(1, GREAT))),) + FIVE[0][1:]
        found = pair_verdict(told, moved, FIVE[1])
        self.assertIsInstance(found, PairFirm)
        self.assertIsNone(pair_fault(told, moved, FIVE[1], found))
        found = pair_verdict(told, ((0, (1, 2)),) + FIVE[0][1:], FIVE[1])
        self.assertIsInstance(found, PairFree)

    def test_refuses(self):
        refuses_both(self, pair_verdict)


def pulls_for(pair, stops_one, stops_other, seed):
    """Couples of pulls: by chance, rest, and some that are borne."""
    chance = random.Random(seed)
    sixes = pair_rows(pair, stops_one, stops_other)
    found = [(REST, REST), tuple(chance.sample(some_pulls(seed, 4), 2)), (row("0 0 1"), row("0 0 -1"))]
    shares = [ratio(chance.choice((0, 0, 1, Fraction(1, 3)))) for _ in sixes]
    borne = row(*[-one for one in weighted(sixes, shares)])
    return found + [(borne[:3], borne[3:])]


class Bear(unittest.TestCase):

    def test_by_hand(self):
        pair = roofed()
        # The roof rests on the box and the box on two stops.
        found = pair_bear(pair, stops("0:1/8 0:7/8"), (), REST, row("0 -4 -8"))
        self.assertEqual(found, PairPushes(row("1/2 1/2 1/2 1/2")))
        found = pair_bear(pair, stops("0:1/8 0:7/8"), (), list(row("0 -4 -8")), list(REST))
        self.assertEqual(found, PairPushes(row("1/2 1/2 0 0")))
        # Left of the shared segment the roof tips.
        found = pair_bear(pair, stops("0:1/8 0:7/8"), (), REST, row("0 -1 -1/2"))
        self.assertIsInstance(found, PairPulled)
        self.assertIsNone(pair_pull_fault(pair, stops("0:1/8 0:7/8"), (), REST, row("0 -1 -1/2"), found))
        # Nothing pulls the roof down onto the box.
        self.assertIsInstance(pair_bear(pair, stops("0:1/8 0:7/8"), (), row("0 -1 -2"), row("0 1 2")), PairPulled)
        self.assertEqual(pair_bear(pair, (), (), REST, REST), PairPushes(row("0 0")))
        # Pushed onto one another they bear each other without a stop.
        self.assertEqual(pair_bear(pair, (), (), row("0 4 4"), row("0 -4 -4")), PairPushes(row("1 0")))

    def test_all(self):
        kinds = {}
        for at, (pair, stops_one, stops_other) in enumerate(cases()):
            sixes = pair_rows(pair, stops_one, stops_other)
            for pull_one, pull_other in pulls_for(pair, stops_one, stops_other, 593 + at):
                found = pair_bear(pair, stops_one, stops_other, pull_one, pull_other)
                is_new_tuple(self, tuple(vars(found).values()))
                self.assertIsNone(pair_pull_fault(pair, stops_one, stops_other, pull_one, pull_other, found))
                kinds[found.__class__] = kinds.get(found.__class__, 0) + 1
                if isinstance(found, PairPushes):
                    self.assertEqual(len(found.amounts), len(sixes))
                    self.assertTrue(all(value(one) >= 0 for one in found.amounts))
                    sums = weighted(sixes, found.amounts)
                    self.assertEqual(sums, tuple(-one for one in values(pull_one + pull_other)))
                else:
                    self.assertIsInstance(found, PairPulled)
                    self.assertTrue(bars_none(sixes, found.one + found.other))
                    self.assertGreater(product(pull_one + pull_other, found.one + found.other), 0)
        self.assertGreater(min(kinds.values()), 120)

    def test_firm_pairs_bear_all(self):
        for pair, stops_one, stops_other in list(cases())[::2]:
            if isinstance(pair_verdict(pair, stops_one, stops_other), PairFirm):
                for pull in (row("1 2 3"), row("-1 0 5"), row(0, 0, -GREAT)):
                    self.assertIsInstance(pair_bear(pair, stops_one, stops_other, pull, REST), PairPushes)
                    self.assertIsInstance(pair_bear(pair, stops_one, stops_other, row("2 0 -1"), pull), PairPushes)

    def test_each_bears_its_own(self):
        counts = 0
        for at, (pair, stops_one, stops_other) in enumerate(list(cases())[::3]):
            for pull_one, pull_other in pulls_for(pair, stops_one, stops_other, 700 + at):
                if is_borne(pair.one, stops_one, pull_one) and is_borne(pair.other, stops_other, pull_other):
                    counts += 1
                    self.assertIsInstance(pair_bear(pair, stops_one, stops_other, pull_one, pull_other), PairPushes)
        self.assertGreater(counts, 50)

    def test_refuses(self):
        refuses_both(self, lambda pair, one, other: pair_bear(pair, one, other, None, None))
        for thing in NO_MOTIONS:
            refused(self, BadPull, lambda: pair_bear(roofed(), *FIVE, thing, REST))
            refused(self, BadPull, lambda: pair_bear(roofed(), *FIVE, REST, thing))


class TouchPlace(unittest.TestCase):

    def test_by_hand(self):
        pair = roofed()
        self.assertEqual(touch_place(pair, FIVE_AMOUNTS), row("2 2"))
        self.assertEqual(touch_place(pair, row("1 3")), row("5/2 2"))
        self.assertEqual(touch_place(pair, list(row("7 7 7 2 0"))), row("1 2"))
        self.assertEqual(touch_place(pair, row("7 0 1/9")), row("3 2"))
        self.assertEqual(touch_place(pair, row("1 -2")), row("5 2"))
        self.assertIsNone(touch_place(pair, row("0 0")))
        self.assertIsNone(touch_place(pair, list(row("5 6 7 0 0"))))
        self.assertIsNone(touch_place(pair, row("1 3 -3")))

    def test_one_push_is_both(self):
        for at, (pair, stops_one, stops_other) in enumerate(cases()):
            chance = random.Random(800 + at)
            amounts = row(*[Fraction(chance.randrange(0, 5), chance.randrange(1, 4))
                            for _ in range(len(stops_one) + len(stops_other) + 2)])
            found = touch_place(pair, amounts)
            first, second = values(amounts)[-2:]
            if first + second == 0:
                self.assertIsNone(found)
                continue
            is_new_tuple(self, found)
            normal = pair.one.normals[pair.sides[0]]
            both = [row_at(end, normal) for end in pair.ends]
            self.assertEqual(weighted((row_at(found, normal),), (ratio(first + second),)),
                             weighted(both, amounts[-2:]))
            (a, b), (c, d), total = values(pair.ends[0]), values(pair.ends[1]), first + second
            self.assertEqual(values(found), ((first * a + second * c) / total, (first * b + second * d) / total))


def amounts_wrong(good):
    """Things that are no sequence of as many ratios as there are good ones, or hold one below 0."""
    return no_numbers(len(good)) + [(ratio(-1),) + good[1:], good[:-1] + ((-1, GREAT),), good[:-1], good + good[:1]]


class JudgeOfVerdicts(unittest.TestCase):

    def test_kind(self):
        for thing in (None, 0, "firm", (), FIVE_AMOUNTS, Alike(), PairPushes(FIVE_AMOUNTS), PairPulled(REST, REST),
                      PairFirm):
            self.assertEqual(pair_fault(roofed(), *FIVE, thing), "kind")

    def test_firm(self):
        pair = roofed()
        self.assertIsNone(pair_fault(pair, *FIVE, PairFirm(list(FIVE_AMOUNTS))))
        self.assertIsNone(pair_fault(pair, [list(stop) for stop in FIVE[0]], list(FIVE[1]), PairFirm(FIVE_AMOUNTS)))
        wrong = amounts_wrong(FIVE_AMOUNTS) + [row("1 2 2 2 2 1 0"), row("0 0 0 0 0 0 0"), (0,) * 7]
        for thing in wrong:
            self.assertEqual(pair_fault(pair, *FIVE, PairFirm(thing)), "amounts")
        for text in ("1 2 2 2 2 1/2 1/3", "1 2 2 2 2 3/4 1/4", "2 2 2 2 2 1/2 1/2", "1 1 1 1 1 1 1"):
            self.assertEqual(pair_fault(pair, *FIVE, PairFirm(row(text))), "sum")
        # Left and right alone leave the box its slides up and down, and its rows no rank.
        flat = (stops("0:1/2"), stops("1:1/2 2:1/2"))
        self.assertEqual(pair_fault(pair, *flat, PairFirm(row("1 2 2 1/2 1/2"))), "rank")
        self.assertEqual(pair_fault(pair, *flat, PairFirm(row("1 2 2 1/2 1"))), "sum")
        self.assertEqual(pair_fault(pair, *flat, PairFirm(row("1 2 2 1 0"))), "amounts")

    def test_free(self):
        pair, some = roofed(), (stops("0:1/4 1:3/4 3:3/4"), stops("1:1/2"))
        # The roof slides up and to the left, along its stop.
        self.assertIsNone(pair_fault(pair, *some, PairFree(REST, row("-1 2 0"))))
        self.assertIsNone(pair_fault(pair, *some, PairFree(list(REST), list(row("-1 0 0")))))
        for thing in NO_MOTIONS:
            self.assertEqual(pair_fault(pair, *some, PairFree(thing, row("-1 2 0"))), "motion")
            self.assertEqual(pair_fault(pair, *some, PairFree(REST, thing)), "motion")
        self.assertEqual(pair_fault(pair, *some, PairFree(REST, REST)), "rest")
        self.assertEqual(pair_fault(pair, *some, PairFree(list(REST), list(REST))), "rest")
        for one, other in (("0 0 0", "-1 3 0"), ("0 0 0", "-1 -1 0"), ("0 1 0", "-1 1/2 0"), ("0 -1 0", "-1 2 0"),
                           ("1 0 0", "-1 2 0"), ("0 0 0", "0 0 -1"), ("0 0 1", "0 0 1")):
            self.assertEqual(pair_fault(pair, *some, PairFree(row(one), row(other))), "barred")
        self.assertEqual(pair_fault(pair, *FIVE, PairFree(REST, row("-1 2 0"))), "barred")
        # Both glued together may move where no stop is.
        self.assertIsNone(pair_fault(pair, (), (), PairFree(row("1 2 3"), row("1 2 3"))))

    def test_numbers_of_any_size(self):
        pair = Pair(work(BOX).shifted(row(10 ** 400, 0)), work(ROOF).shifted(row(10 ** 400, 0)))
        amounts = row(*[one * 10 ** 500 for one in values(FIVE_AMOUNTS)])
        self.assertIsNone(pair_fault(pair, *FIVE, PairFirm(amounts)))
        self.assertEqual(pair_fault(pair, *FIVE, PairFirm(amounts[:-1] + (ratio(10 ** 500 // 2 + 1),))), "sum")


class JudgeOfPulls(unittest.TestCase):

    SOME = (stops("0:1/8 0:7/8"), ())
    PULLS = (REST, row("0 -4 -8"))
    TIPPING = (REST, row("0 -1 -1/2"))

    def test_kind(self):
        for thing in (None, 0, (), "kind", Alike(), PairFirm(row("1 1 1 1")), PairFree(REST, row("1 0 0")), PairPushes):
            self.assertEqual(pair_pull_fault(roofed(), *self.SOME, *self.PULLS, thing), "kind")

    def test_pushes(self):
        pair, good = roofed(), row("1/2 1/2 1/2 1/2")
        self.assertIsNone(pair_pull_fault(pair, *self.SOME, *self.PULLS, PairPushes(good)))
        self.assertIsNone(pair_pull_fault(pair, [[0, (1, 8)], [0, (7, 8)]], [], list(REST), list(self.PULLS[1]),
                                          PairPushes(list(good))))
        self.assertIsNone(pair_pull_fault(pair, *self.SOME, REST, REST, PairPushes(row("0 0 0 0"))))
        for thing in amounts_wrong(good):
            self.assertEqual(pair_pull_fault(pair, *self.SOME, *self.PULLS, PairPushes(thing)), "amounts")
        for text in ("1/2 1/2 1/2 1/3", "0 0 0 0", "1 0 1/2 1/2", "1 1 1 1"):
            self.assertEqual(pair_pull_fault(pair, *self.SOME, *self.PULLS, PairPushes(row(text))), "sum")
        # The pulls themselves are no sum of pushes; their opposites are.
        self.assertEqual(pair_pull_fault(pair, *self.SOME, REST, row("0 4 8"), PairPushes(good)), "sum")

    def test_pulled(self):
        pair, some, pulls = roofed(), self.SOME, self.TIPPING
        # The roof tips to the left about its left end (1, 2).
        good = PairPulled(REST, row("2 -1 1"))
        self.assertIsNone(pair_pull_fault(pair, *some, *pulls, good))
        self.assertIsNone(pair_pull_fault(pair, *some, *pulls, PairPulled(list(REST), list(row("2 -1 1")))))
        for thing in NO_MOTIONS:
            self.assertEqual(pair_pull_fault(pair, *some, *pulls, PairPulled(thing, row("2 -1 1"))), "motion")
            self.assertEqual(pair_pull_fault(pair, *some, *pulls, PairPulled(REST, thing)), "motion")
        for one, other in (("0 0 0", "-2 1 -1"), ("0 0 0", "0 -1 0"), ("0 -1 0", "0 -1 0"), ("0 1 0", "2 -1 1")):
            self.assertEqual(pair_pull_fault(pair, *some, *pulls, PairPulled(row(one), row(other))), "barred")
        for one, other in (("0 0 0", "0 0 0"), ("0 0 0", "1 0 0"), ("0 0 0", "0 1 0"), ("1 0 0", "-5 0 0")):
            self.assertEqual(pair_pull_fault(pair, *some, *pulls, PairPulled(row(one), row(other))), "product")
        self.assertEqual(pair_pull_fault(pair, *some, *self.PULLS, good), "product")
        self.assertIsNone(pair_pull_fault(pair, *some, row("1 0 0"), REST, PairPulled(row("1 0 0"), REST)))

    def test_great_numbers(self):
        told = Pair(Work([row(0, 0), row(GREAT, 0), row(1, GREAT)]), work("0,0 0,-1 1,0"))
        some = ((1, ratio("1/3")), (2, ratio("1/5"))), stops("0:1/2")
        for pull in (row(GREAT, 0, 1), row(0, -GREAT, Fraction(1, GREAT))):
            found = pair_bear(told, *some, pull, row("0 1 0"))
            self.assertIsNone(pair_pull_fault(told, *some, pull, row("0 1 0"), found))


class Results(unittest.TestCase):

    def test_classes(self):
        is_result(self, PairFirm, {"amounts": row("1 1")}, (None, [], row("1 2")))
        is_result(self, PairPushes, {"amounts": row("1 1")}, (None, [], row("1 2")))
        is_result(self, PairFree, {"one": REST, "other": row("1 0 0")}, (None, [], row("0 0 2")))
        is_result(self, PairPulled, {"one": REST, "other": row("1 0 0")}, (None, [], row("0 0 2")))
        self.assertFalse(PairFirm(1) == PairPushes(1))
        self.assertFalse(PairPushes(1) == PairFirm(1))
        self.assertFalse(PairFree(1, 2) == PairPulled(1, 2))
        self.assertFalse(PairPulled(1, 2) == PairFree(1, 2))


if __name__ == "__main__":
    unittest.main()
