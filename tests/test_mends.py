"""[10.8], [10.9]: good selections of a pool of changes, mends, spoilers, and the judge."""

import random
import unittest
from fractions import Fraction
from itertools import combinations

from firmstops.changes import apply_changes
from firmstops.errors import BadChange, BadWish
from firmstops.mends import Mend, good_selections, least_mends, mends_fault, spoilers
from firmstops.wishes import holds_all

from helpers import BOX, NO_SEQUENCES, SQUARE, TRIANGLE, Alike
from helpers import is_new_tuple, is_result, ratio, refused, refuses_stops, row, some_stops, some_works, stops
from helpers import values, work

GREAT = 10 ** 280 + 3
STOP = (0, (1, 2))
FIRM, HELD, LOOSE = ("firm",), ("held",), ("loose",)
DOWN = row("0 -1 -2")
BEGUN = stops("0:1/4 0:3/4 2:1/2")
PUTS = [("put", stops("1:1/2")[0]), ("put", stops("3:1/2")[0]), ["put", [1, (1, 2)]]]
ASKS = (good_selections, least_mends, spoilers)


def every_selection(many):
    return [lot for size in range(many + 1) for lot in combinations(range(many), size)]


def outcome(told, some, pool, selection, wishes):
    """Whether a selection is good, None for a refused one."""
    try:
        behind = apply_changes(told, some, [pool[at] for at in selection])
    except BadChange:
        return None
    return holds_all(*behind, wishes)


def mended_by_hand(told, some, pool, wishes):
    """(good selections, mends' selections, spoilers) by the words of the document."""
    outcomes = {lot: outcome(told, some, pool, lot, wishes) for lot in every_selection(len(pool))}
    good = tuple(lot for lot in outcomes if outcomes[lot])
    mends = tuple(lot for lot in good if not any(set(part) < set(lot) for part in good))
    spoil = tuple((lot, at) for lot in mends for at in range(len(pool))
                  if at not in lot and outcomes[tuple(sorted(lot + (at,)))] is False)
    return good, mends, spoil, outcomes


def by_chance(told, some, chance):
    """A pool of changes of all forms."""
    pool = []
    for _ in range(chance.randrange(1, 6)):
        stop = some_stops(told, chance.randrange(10 ** 6), 1)[0]
        known = chance.choice(some + (stop,) + tuple(change[1] for change in pool if change[0] == "put"))
        number = chance.randrange(len(told))
        (a, b), (c, d) = values(told.corners[number]), values(told.middle)
        by = chance.choice((Fraction(1, 10), Fraction(-1, 10), Fraction(7)))
        place = row(a + (c - a) * by, b + (d - b) * by)
        pool.append(chance.choice((("put", stop), ("put", stop), ("take", known), ("move", known, stop[1]),
                                   ("corner", number, place))))
    return [chance.choice((tuple, list))(change) for change in pool]


WISH_LISTS = ((), (FIRM,), (FIRM,), (HELD,), (LOOSE,), (LOOSE, ("bears", DOWN)), (("slid in", row("0 -1")),),
              (("bears", row("0 0 0")), ("slid in", row("1 2")), ("bears", DOWN), LOOSE), (HELD, ("bears", DOWN)),
              (FIRM, HELD))


def cases():
    for at, told in enumerate(some_works()):
        chance = random.Random(630 + at)
        for wishes in WISH_LISTS:
            some = some_stops(told, 640 + at, chance.randrange(0, 7)) if at % 2 else tuple(
                (side % len(told), (1, 2)) for side in range(chance.randrange(2, 8)))
            yield told, some, by_chance(told, some, chance), wishes
    chance = random.Random(650)
    for _ in range(40):
        pool = [("put", (chance.choice((1, 3)), (1, 2))) for _ in range(chance.randrange(1, 4))]
        pool += by_chance(work(BOX), BEGUN, chance)
        chance.shuffle(pool)
        yield work(BOX), BEGUN, pool[:5], chance.choice(((FIRM,), (HELD,), (FIRM, ("bears", DOWN))))
    yield work(BOX), BEGUN, PUTS, (FIRM,)
    yield work(BOX), BEGUN, PUTS, ()


class ByHand(unittest.TestCase):

    def test_puts(self):
        told = work(BOX)
        self.assertEqual(good_selections(told, BEGUN, PUTS, (FIRM,)), ((0, 1), (1, 2), (0, 1, 2)))
        both = (Mend((0, 1), told, BEGUN + stops("1:1/2 3:1/2")), Mend((1, 2), told, BEGUN + stops("3:1/2 1:1/2")))
        self.assertEqual(least_mends(told, BEGUN, PUTS, (FIRM,)), both)
        self.assertEqual(spoilers(told, BEGUN, PUTS, [list(FIRM)]), ())

    def test_nothing_to_mend(self):
        told, some = work(BOX), BEGUN + stops("1:1/2 3:1/2")
        pool = [("take", STOP), ("take", some[2]), ("put", STOP)]
        # The first one is refused where it is not put before.
        self.assertEqual(good_selections(told, some, pool, (FIRM,)), ((), (2,)))
        self.assertEqual(least_mends(told, some, pool, (FIRM,)), (Mend((), told, some),))
        self.assertEqual(spoilers(told, some, pool, (FIRM,)), (((), 1),))
        self.assertEqual(good_selections(told, some, pool, (LOOSE,)), ((1,), (1, 2)))
        self.assertEqual(spoilers(told, some, pool, (LOOSE,)), ())

    def test_no_mend(self):
        told = work(BOX)
        for some, pool, wishes in ((BEGUN, PUTS[:1], (FIRM,)), ((), [("take", STOP)], (HELD,)),
                                   (BEGUN, PUTS, (FIRM, LOOSE))):
            self.assertEqual(good_selections(told, some, pool, wishes), ())
            self.assertEqual(least_mends(told, some, pool, wishes), ())
            self.assertEqual(spoilers(told, some, pool, wishes), ())

    def test_refused_within_good(self):
        # The stop can be moved only where it is put before.
        told, some = work(BOX), stops("0:1/4 2:1/2 1:1/2 3:1/2")
        pool = [("put", (0, (1, 8))), ["move", [0, (1, 8)], (3, 4)], ("take", (0, (1, 8)))]
        self.assertEqual([outcome(told, some, pool, lot, (FIRM,)) for lot in ((0,), (1,), (2,), (0, 2), (0, 1, 2))],
                         [False, None, None, False, None])
        good = good_selections(told, some, pool, (FIRM,))
        self.assertEqual(good, ((0, 1),))
        self.assertEqual(least_mends(told, some, pool, (FIRM,)), (Mend((0, 1), told, some + stops("0:3/4")),))
        # With 2 put in at its place the stop is not there any more: that selection is refused.
        self.assertEqual(spoilers(told, some, pool, (FIRM,)), ())

    def test_around_a_good_one(self):
        # A selection around a good one need not be good.
        told, some = work(BOX), BEGUN + stops("1:1/2")
        pool = [("put", stops("3:1/2")[0]), ("take", stops("2:1/2")[0]), ("corner", 2, row("4 9"))]
        self.assertEqual(good_selections(told, some, pool, (FIRM,)), ((0,), (0, 2)))
        self.assertEqual(least_mends(told, some, pool, (FIRM,)), (Mend((0,), told, some + stops("3:1/2")),))
        self.assertEqual(spoilers(told, some, pool, (FIRM,)), (((0,), 1),))

    def test_the_order_of_the_pool_counts(self):
        told = work(TRIANGLE)
        first, second = ("corner", 1, row("9 9")), ("corner", 0, row("4 3"))
        self.assertEqual(good_selections(told, (), [first, second], ()), ((), (0,), (0, 1)))
        self.assertEqual(good_selections(told, (), [second, first], ()), ((), (1,)))

    def test_pools_of_one_and_five(self):
        told = work(SQUARE)
        self.assertEqual(good_selections(told, (), [("put", STOP)], ()), ((), (0,)))
        self.assertEqual(good_selections(told, (), (["put", STOP],) * 5, ()), tuple(every_selection(5)))
        self.assertEqual(good_selections(told, (STOP,) * 6, [("put", STOP)] * 5, ()), tuple(every_selection(5)[:16]))
        self.assertEqual(least_mends(told, (), [("put", STOP)] * 5, ()), (Mend((), told, ()),))
        self.assertEqual(spoilers(told, (), [("put", STOP)] * 5, (("slid in", row("0 1")),)),
                         (((), 0), ((), 1), ((), 2), ((), 3), ((), 4)))


class All(unittest.TestCase):

    def test_all(self):
        counts = {}
        for told, some, pool, wishes in cases():
            good, mends, spoil, outcomes = mended_by_hand(told, some, pool, wishes)
            found = good_selections(told, some, pool, wishes)
            is_new_tuple(self, found)
            self.assertEqual(found, good)
            mended = least_mends(told, some, pool, wishes)
            self.assertIsInstance(mended, tuple)
            self.assertEqual(tuple(mend.selection for mend in mended), mends)
            for mend in mended:
                self.assertIsInstance(mend, Mend)
                behind = apply_changes(told, some, [pool[at] for at in mend.selection])
                self.assertEqual((mend.work, mend.stops), behind)
                is_new_tuple(self, (mend.selection, mend.stops))
            self.assertIsNone(mends_fault(told, some, pool, wishes, mended))
            found = spoilers(told, some, pool, wishes)
            is_new_tuple(self, found)
            self.assertEqual(found, spoil)
            for name, kind in (("good", good), ("mends", mends[1:]), ("spoil", spoil), ("within", [
                    lot for lot in good if any(outcomes[part] is None for part in outcomes if set(part) < set(lot))])):
                counts[name] = counts.get(name, 0) + bool(kind)
        self.assertGreater(counts["good"], 30)
        self.assertGreater(counts["spoil"], 5)
        self.assertGreater(counts["within"], 2)
        self.assertGreater(counts["mends"], 10)

    def test_great_numbers(self):
        told = work(BOX).grown(ratio(GREAT))
        pool = [("put", (1, ratio(Fraction(GREAT - 1, 2 * GREAT)))), ("put", (3, ratio("1/2"))),
                ("corner", 0, row(-1, Fraction(-1, GREAT)))]
        found = least_mends(told, BEGUN, pool, (FIRM,))
        # The last corner turns the sides 0 and 3 by ever so little, so that they push against one another.
        self.assertEqual([mend.selection for mend in found], [(0, 1), (1, 2)])
        self.assertIsNone(mends_fault(told, BEGUN, pool, (FIRM,), found))

    def test_lists(self):
        told, listed = work(BOX), [[0, (1, 4)], [0, (3, 4)], (2, (1, 2))]
        for ask in ASKS:
            self.assertEqual(ask(told, listed, tuple(PUTS), [list(FIRM)]), ask(told, BEGUN, PUTS, (FIRM,)))


class Refused(unittest.TestCase):

    def test_order_of_checks(self):
        triangle = work(TRIANGLE)
        good = ("put", STOP)
        for ask in ASKS:
            refuses_stops(self, lambda some: ask(triangle, some, None, None))
            for pool in NO_SEQUENCES + ((), [], [good] * 6, (None,) * 6, Alike()):
                refused(self, BadChange, lambda: ask(triangle, (), pool, None), 0, "pool")
            for change, what in ((None, "change"), (("put",), "change"), (("put", (3, (1, 2))), "stop"),
                                 (("take", (0, (1, 1))), "stop"), (("move", STOP, (1, 1)), "spot"),
                                 (("corner", 3, None), "corner"), (["corner", True, row("0 0")], "corner"),
                                 (("corner", 0, (0, 0)), "place")):
                refused(self, BadChange, lambda: ask(triangle, (), [change], None), 0, what)
                refused(self, BadChange, lambda: ask(triangle, (), (good, good, change, None), None), 2, what)
            for wishes in NO_SEQUENCES + ([FIRM] * 5, (None,) * 5):
                refused(self, BadWish, lambda: ask(triangle, (), [good], wishes), 0, "many")
            for wish in (None, ("firm", 1), ("bears", row("1 0")), ("slid in", row("0 0")), (), "firm"):
                refused(self, BadWish, lambda: ask(triangle, (), [good], (FIRM, wish, None)), 1, "wish")

    def test_other_faults_are_none_of_form(self):
        # What cannot be applied is refused within the selections, not by an error.
        told = work(TRIANGLE)
        pool = [("take", STOP), ("move", STOP, (1, 3)), ("corner", 0, row("4 3"))]
        self.assertEqual(good_selections(told, (), pool, ()), ((),))
        self.assertEqual(good_selections(told, (STOP,) * 8, [("put", STOP)], ()), ((),))
        # The wishes are checked though each selection but one is refused.
        refused(self, BadWish, lambda: good_selections(told, (), pool, (None,)), 0, "wish")


class Judge(unittest.TestCase):

    def setUp(self):
        self.told = work(BOX)
        self.mends = least_mends(self.told, BEGUN, PUTS, (FIRM,))

    def judge(self, mends, pool=None, wishes=(FIRM,)):
        return mends_fault(self.told, BEGUN, pool or PUTS, wishes, mends)

    def test_right(self):
        one, other = self.mends
        self.assertIsNone(self.judge(self.mends))
        self.assertIsNone(self.judge([one, other]))
        self.assertIsNone(self.judge([one, Mend((1, 2), work(BOX), [[0, (1, 4)], *other.stops[1:]])]))
        self.assertIsNone(self.judge((), PUTS[:1]))
        self.assertIsNone(self.judge([], PUTS[:1]))
        self.assertIsNone(mends_fault(self.told, [list(stop) for stop in BEGUN], tuple(PUTS), [["firm"]], self.mends))

    def test_mends(self):
        for thing in NO_SEQUENCES + (Alike(), [None], (self.mends[0], None), self.mends + (Alike(),), (self.mends,),
                                     [self.mends[0].selection], self.mends[0]):
            self.assertEqual(self.judge(thing), "mends")

    def test_selection(self):
        for thing in NO_SEQUENCES + (Alike(), (1, 0), (0, 0), (0, 3), (-1, 0), (False, 1), (0, True), (0, 1.0), ("0",),
                                     ((0, 1),), (None,), (0, 1, 2, 3)):
            self.assertEqual(self.judge((Mend(thing, None, None),)), "selection")
            self.assertEqual(self.judge((self.mends[0], Mend(thing, None, None))), "selection")

    def test_refused(self):
        pool = PUTS[:2] + [("take", STOP)]
        self.assertEqual(self.judge((Mend((2,), None, None),), pool), "refused")
        self.assertEqual(self.judge((Mend((0, 1, 2), self.told, BEGUN),), pool), "refused")
        # It is refused before it is asked what is within it.
        self.assertEqual(self.judge([self.mends[0], Mend((0, 1, 2), None, None)], pool), "refused")

    def test_behind(self):
        one = self.mends[0]
        for other in (None, 0, work(SQUARE), self.told.begun_at(1), self.told.corners, Alike()):
            self.assertEqual(self.judge((Mend((0, 1), other, one.stops),)), "behind")
        for some in (None, 0, (), BEGUN, one.stops[::-1], self.mends[1].stops, one.stops + (STOP,), {}, one.stops[1:],
                     [None] * 5, (0, 1, 2, 3, 4)):
            self.assertEqual(self.judge((Mend((0, 1), self.told, some),)), "behind")
        # What is behind is asked before the wishes.
        self.assertEqual(self.judge((Mend((0,), self.told, BEGUN),)), "behind")

    def test_wish(self):
        self.assertEqual(self.judge((Mend((0,), self.told, BEGUN + stops("1:1/2")),)), "wish")
        self.assertEqual(self.judge((Mend((), self.told, BEGUN), self.mends[0])), "wish")
        self.assertEqual(self.judge(self.mends, PUTS, (FIRM, LOOSE)), "wish")

    def test_least(self):
        wide = Mend((0, 1, 2), self.told, BEGUN + stops("1:1/2 3:1/2 1:1/2"))
        self.assertEqual(self.judge((wide,)), "least")
        self.assertEqual(self.judge(self.mends + (wide,)), "least")
        # A good one within it counts though it is not told.
        self.assertEqual(self.judge((Mend((0,), self.told, BEGUN + stops("1:1/2")),), PUTS, ()), "least")

    def test_words_of_a_mend_before_the_next(self):
        wide = Mend((0, 1, 2), self.told, BEGUN + stops("1:1/2 3:1/2 1:1/2"))
        self.assertEqual(self.judge((wide, Mend(None, None, None))), "least")
        self.assertEqual(self.judge((Mend((0,), self.told, BEGUN + stops("1:1/2")), Mend((7,), 0, 0))), "wish")
        # The order is asked last but one.
        self.assertEqual(self.judge((self.mends[1], self.mends[0], wide)), "least")

    def test_order_and_missing(self):
        one, other = self.mends
        self.assertEqual(self.judge((other, one)), "order")
        self.assertEqual(self.judge((one, one)), "order")
        self.assertEqual(self.judge([one, other, other]), "order")
        for some in ((), [], (one,), [other]):
            self.assertEqual(self.judge(some), "missing")
        # Three mends of which one is missing, and two are in the wrong order.
        pool = PUTS + [("put", stops("1:1/2")[0])]
        three = least_mends(self.told, BEGUN, pool, (FIRM,))
        self.assertEqual([mend.selection for mend in three], [(0, 1), (1, 2), (1, 3)])
        self.assertEqual(self.judge((three[2], three[0]), pool), "order")
        self.assertEqual(self.judge((three[0], three[2]), pool), "missing")

    def test_fewer_indices_come_first(self):
        pool = [PUTS[0], PUTS[1], ("put", stops("3:1/2")[0])]
        some = BEGUN + stops("1:1/3")
        mends = least_mends(self.told, some, pool, (FIRM,))
        selections = [mend.selection for mend in mends]
        self.assertEqual(selections, [lot for lot in every_selection(3) if lot in selections])
        self.assertIsNone(mends_fault(self.told, some, pool, (FIRM,), mends))

    def test_class(self):
        is_result(self, Mend, {"selection": (0, 1), "work": work(BOX), "stops": BEGUN}, (None, [], (1,)))
        self.assertTrue(Mend((0,), work(BOX), ()) == Mend((0,), work(BOX), ()))


if __name__ == "__main__":
    unittest.main()
