"""[10.10]: the bench, changed step by step."""

import random
import unittest

from firmstops.bench import Bench
from firmstops.changes import apply_change, apply_changes
from firmstops.errors import BadChange, BadWish, NothingDone
from firmstops.wishes import holds_all

from helpers import BOX, EIGHT, SKEW, TRIANGLE
from helpers import is_new_tuple, ratio, refused, refuses_stops, row, some_stops, some_works, stops, work

GREAT = 10 ** 280 + 3
STOP = (0, (1, 2))
BEGUN = stops("0:1/4 0:3/4 2:1/2")
LEFT, RIGHT = ("put", stops("3:1/2")[0]), ("put", stops("1:1/2")[0])
FIRM, LOOSE, DOWN = ("firm",), ("loose",), ("bears", row("0 -1 -2"))


def state(bench):
    """All that a bench tells."""
    return (bench.work, bench.stops, bench.made, len(bench), list(bench.stages()))


def is_state(test, bench, told, some, changes):
    """Ask that a bench tells what comes of changes of a work with stops."""
    behind = apply_changes(told, some, changes) if len(changes) < 9 else None
    test.assertEqual(len(bench), len(changes))
    test.assertEqual(bench.made, tuple(changes))
    is_new_tuple(test, bench.made)
    is_new_tuple(test, bench.stops)
    if behind is not None:
        test.assertEqual((bench.work, bench.stops), behind)
        stages = [apply_changes(told, some, changes[:many]) for many in range(len(changes) + 1)]
        test.assertEqual(list(bench.stages()), stages)


class Begin(unittest.TestCase):

    def test_by_hand(self):
        told = work(BOX)
        bench = Bench(told)
        self.assertEqual((bench.work, bench.stops, bench.made, len(bench)), (told, (), (), 0))
        self.assertEqual(list(bench.stages()), [(told, ())])
        bench = Bench(told, [[0, (1, 4)], (0, (3, 4)), [2, (1, 2)]])
        is_state(self, bench, told, BEGUN, ())
        bench = Bench(told, stops=BEGUN)
        is_state(self, bench, told, BEGUN, ())
        self.assertEqual(Bench(told, (STOP,) * 8).stops, (STOP,) * 8)

    def test_refuses(self):
        refuses_stops(self, lambda some: Bench(work(TRIANGLE), some))

    def test_nothing_done(self):
        bench = Bench(work(BOX), BEGUN)
        before = state(bench)
        for _ in range(2):
            refused(self, NothingDone, bench.undo)
            self.assertEqual(state(bench), before)


class Steps(unittest.TestCase):

    def test_each_form(self):
        told, bench = work(BOX), Bench(work(BOX), BEGUN)
        changes = [["put", [3, (1, 2)]], ("move", [3, (1, 2)], (1, 3)), ["take", (0, (1, 4))],
                   ("corner", 2, list(row("5 7/2")))]
        kept = (("put", (3, (1, 2))), ("move", (3, (1, 2)), (1, 3)), ("take", (0, (1, 4))), ("corner", 2, row("5 7/2")))
        for at, change in enumerate(changes):
            self.assertIsNone(bench.make(change))
            is_state(self, bench, told, BEGUN, kept[:at + 1])
        self.assertEqual((bench.work, bench.stops), (work("0,0 4,0 5,7/2 0,2"), stops("0:3/4 2:1/2 3:1/3")))
        for at in (3, 2, 1, 0):
            found = bench.undo()
            self.assertEqual(found, kept[at])
            is_new_tuple(self, found)
            is_state(self, bench, told, BEGUN, kept[:at])
        refused(self, NothingDone, bench.undo)

    def test_undone_and_done_again(self):
        told, bench = work(BOX), Bench(work(BOX), BEGUN)
        bench.make(LEFT)
        bench.make(RIGHT)
        self.assertEqual(bench.undo(), RIGHT)
        bench.make(["put", STOP])
        is_state(self, bench, told, BEGUN, (LEFT, ("put", STOP)))
        self.assertEqual(bench.undo(), ("put", STOP))
        self.assertEqual(bench.undo(), LEFT)
        refused(self, NothingDone, bench.undo)
        bench.make(RIGHT)
        is_state(self, bench, told, BEGUN, (RIGHT,))
        self.assertEqual(bench.stops, BEGUN + stops("1:1/2"))

    def test_two_equal_stops(self):
        some = (STOP, (1, (1, 2)), STOP)
        bench = Bench(work(BOX), some)
        bench.make(("take", STOP))
        self.assertEqual(bench.stops, some[1:])
        bench.undo()
        self.assertEqual(bench.stops, some)
        bench.make(("move", STOP, (1, 3)))
        self.assertEqual(bench.stops, ((0, (1, 3)),) + some[1:])
        bench.undo()
        self.assertEqual(bench.stops, some)

    def test_many(self):
        bench = Bench(work(BOX))
        for _ in range(20):
            bench.make(("put", STOP))
            bench.make(("take", STOP))
        self.assertEqual((len(bench), bench.stops, len(list(bench.stages()))), (40, (), 41))
        self.assertEqual(bench.made, (("put", STOP), ("take", STOP)) * 20)
        for at in range(40):
            self.assertEqual(bench.undo()[0], ("take", "put")[at % 2])
        refused(self, NothingDone, bench.undo)

    def test_what_cannot_be_applied(self):
        bench = Bench(work(TRIANGLE), (STOP,) * 7)
        bench.make(("put", (1, (1, 3))))
        before = state(bench)
        for change, what in ((None, "change"), (("put",), "change"), (("put", (3, (1, 2))), "stop"),
                             (["move", STOP, (1, 1)], "spot"), (("corner", 3, row("0 0")), "corner"),
                             (("corner", 0, (0, 0)), "place"), (("put", STOP), "many"),
                             (("take", (2, (1, 2))), "absent"), (("move", (0, (1, 3)), (1, 2)), "absent"),
                             (["corner", 0, row("4 3")], "work")):
            refused(self, BadChange, lambda: bench.make(change), 0, what)
            self.assertEqual(state(bench), before)

    def test_by_chance(self):
        for at, told in enumerate(some_works()):
            chance, some = random.Random(660 + at), some_stops(told, 661 + at, 3)
            bench, made = Bench(told, some), []
            for _ in range(14):
                stop = some_stops(told, chance.randrange(10 ** 6), 1)[0]
                known = chance.choice(bench.stops + (stop,))
                change = chance.choice((("put", stop), ("take", known), ("move", known, stop[1]), None))
                if change is None:
                    if made:
                        self.assertEqual(bench.undo(), made.pop())
                    else:
                        refused(self, NothingDone, bench.undo)
                elif change[0] == "put" and len(bench.stops) == 8 or change[0] != "put" and known not in bench.stops:
                    self.assertRaises(BadChange, bench.make, change)
                elif len(made) < 8:
                    behind = apply_change(bench.work, bench.stops, change)
                    bench.make(chance.choice((tuple, list))(change))
                    self.assertEqual((bench.work, bench.stops), behind)
                    made.append(change)
                is_state(self, bench, told, some, tuple(made))


class Within(unittest.TestCase):

    def test_stops(self):
        bench = Bench(work(BOX), BEGUN)
        for stop in BEGUN:
            self.assertTrue(stop in bench)
            self.assertFalse(list(stop) in bench)
        for thing in ((0, (1, 2)), (1, (1, 4)), (2, (1, 4)), None, 0, (), "0:1/4", (0,), (0, (1, 4), (1, 4)), {},
                      (0, [1, 4]), (0, (2, 8)), BEGUN, [0, [1, 4]], (0, 0.25), (9, (1, 4)), (-2, (1, 2))):
            self.assertFalse(thing in bench, thing)
        self.assertIs(BEGUN[0] in bench, True)
        self.assertIs(STOP in bench, False)

    def test_no_bools(self):
        bench = Bench(work(BOX), stops("0:1/2 1:1/2"))
        self.assertTrue((1, (1, 2)) in bench)
        for thing in ((False, (1, 2)), (True, (1, 2)), (0, (True, 2)), (1.0, (1, 2))):
            self.assertFalse(thing in bench)

    def test_present_stops(self):
        bench = Bench(work(BOX), (STOP,))
        bench.make(("move", STOP, (1, 3)))
        self.assertEqual((STOP in bench, (0, (1, 3)) in bench), (False, True))
        bench.undo()
        self.assertEqual((STOP in bench, (0, (1, 3)) in bench), (True, False))
        bench.make(("take", STOP))
        self.assertEqual((STOP in bench, (0, (1, 3)) in bench), (False, False))


class Holds(unittest.TestCase):

    def test_by_hand(self):
        bench = Bench(work(BOX), BEGUN)
        self.assertIs(bench.holds(), True)
        self.assertIs(bench.holds(FIRM), False)
        self.assertIs(bench.holds(LOOSE, ["bears", list(DOWN[1])]), True)
        bench.make(LEFT)
        bench.make(RIGHT)
        self.assertIs(bench.holds(["firm"], ("held",), DOWN), True)
        self.assertIs(bench.holds(FIRM, LOOSE), False)
        bench.undo()
        self.assertIs(bench.holds(FIRM), False)

    def test_refuses(self):
        bench = Bench(work(BOX), BEGUN)
        before = state(bench)
        refused(self, BadWish, lambda: bench.holds(FIRM, FIRM, FIRM, FIRM, FIRM), 0, "many")
        refused(self, BadWish, lambda: bench.holds(None, None, None, None, None), 0, "many")
        refused(self, BadWish, lambda: bench.holds("firm"), 0, "wish")
        refused(self, BadWish, lambda: bench.holds((FIRM,)), 0, "wish")
        refused(self, BadWish, lambda: bench.holds(FIRM, LOOSE, ("bears", row("1 0")), None), 2, "wish")
        self.assertEqual(state(bench), before)


class Trial(unittest.TestCase):

    def test_by_hand(self):
        bench = Bench(work(BOX), BEGUN)
        before = state(bench)
        self.assertIs(bench.trial(), False)
        self.assertIs(bench.trial(LEFT), False)
        self.assertIs(bench.trial(LEFT, list(RIGHT)), True)
        self.assertIs(bench.trial(wishes=()), True)
        self.assertIs(bench.trial(wishes=[LOOSE, DOWN]), True)
        self.assertIs(bench.trial(LEFT, RIGHT, wishes=[LOOSE]), False)
        self.assertIs(bench.trial(LEFT, RIGHT, ("take", BEGUN[2]), wishes=(("slid in", row("0 -1")),)), True)
        self.assertIs(bench.trial(("corner", 2, row("9 9")), ("corner", 0, row("-1 -1")), wishes=(LOOSE,)), True)
        self.assertEqual(state(bench), before)

    def test_behind_changes(self):
        bench = Bench(work(BOX), BEGUN)
        bench.make(LEFT)
        before = state(bench)
        self.assertIs(bench.trial(), False)
        self.assertIs(bench.trial(RIGHT), True)
        self.assertEqual(state(bench), before)
        bench.make(RIGHT)
        self.assertIs(bench.trial(), True)
        self.assertIs(bench.trial(("take", LEFT[1])), False)
        bench.undo()
        self.assertEqual(state(bench), before)

    def test_eight_changes(self):
        bench = Bench(work(BOX))
        self.assertIs(bench.trial(*[("put", STOP)] * 8, wishes=(LOOSE,)), True)
        refused(self, BadChange, lambda: bench.trial(*[("put", STOP)] * 9), 0, "pool")
        refused(self, BadChange, lambda: bench.trial(*[None] * 9, wishes=None), 0, "pool")
        self.assertEqual(state(bench), (work(BOX), (), (), 0, [(work(BOX), ())]))

    def test_raises(self):
        bench = Bench(work(TRIANGLE), (STOP,))
        bench.make(("put", (1, (1, 2))))
        before = state(bench)
        put = ("put", STOP)
        for changes, wishes, index, what in (
                ((None,), None, 0, "change"), ((put, put, ("put", (3, (1, 2)))), (None,), 2, "stop"),
                ((put, ("move", STOP, 1)), (FIRM,), 1, "spot"), ((put, ("take", (2, (1, 2)))), None, 1, "absent"),
                ((put,) * 7, (FIRM,), 6, "many"), ((put, ("corner", 0, row("4 3"))), None, 1, "work"),
                ((put, ("corner", 3, None)), None, 1, "corner"), ((put, ["corner", 0, None]), None, 1, "place")):
            refused(self, BadChange, lambda: bench.trial(*changes, wishes=wishes), index, what)
            self.assertEqual(state(bench), before)
        for wishes, index, what in ((None, 0, "many"), ([FIRM] * 5, 0, "many"), ("firm", 0, "many"), (FIRM, 0, "wish"),
                                    ((FIRM, LOOSE, ("bears",), None), 2, "wish")):
            refused(self, BadWish, lambda: bench.trial(put, wishes=wishes), index, what)
            self.assertEqual(state(bench), before)

    def test_by_chance(self):
        seen = set()
        for at, told in enumerate(some_works()):
            bench = Bench(told, some_stops(told, 670 + at, 3))
            before = state(bench)
            changes = [("put", stop) for stop in some_stops(told, 680 + at, 5)]
            for many in range(6):
                for wishes in ((FIRM,), (("held",),), (LOOSE, DOWN), ()):
                    found = bench.trial(*changes[:many], wishes=wishes)
                    self.assertIs(found, holds_all(told, bench.stops + tuple(one[1] for one in changes[:many]), wishes))
                    seen.add(found)
            self.assertEqual(state(bench), before)
        self.assertEqual(seen, {True, False})


class Stages(unittest.TestCase):

    def test_couples(self):
        bench = Bench(work(BOX), BEGUN)
        bench.make(LEFT)
        bench.make(("corner", 2, row("5 3")))
        found = bench.stages()
        self.assertIs(iter(found), found)
        self.assertEqual(next(found), (work(BOX), BEGUN))
        self.assertEqual(next(found), (work(BOX), BEGUN + (LEFT[1],)))
        self.assertEqual(next(found), (work("0,0 4,0 5,3 0,2"), BEGUN + (LEFT[1],)))
        self.assertRaises(StopIteration, next, found)
        for stage in bench.stages():
            self.assertIsInstance(stage, tuple)
            is_new_tuple(self, stage[1])

    def test_of_the_present(self):
        bench = Bench(work(SKEW))
        first = list(bench.stages())
        bench.make(("put", STOP))
        self.assertEqual(len(list(bench.stages())), 2)
        self.assertEqual(first, [(work(SKEW), ())])
        bench.undo()
        self.assertEqual(list(bench.stages()), first)


class Kept(unittest.TestCase):

    def test_lists_changed_behind_the_call(self):
        some, stop, place = [[0, (1, 4)], (0, (3, 4))], [3, (1, 2)], list(row("5 3"))
        bench = Bench(work(BOX), some)
        put, corner = ["put", stop], ["corner", 2, place]
        bench.make(put)
        bench.make(corner)
        before = state(bench)
        self.assertEqual((some, put, corner), ([[0, (1, 4)], (0, (3, 4))], ["put", stop], ["corner", 2, place]))
        some[0][0], stop[0], place[0], put[0], corner[1] = 2, 1, ratio(77), "take", 0
        some.clear()
        self.assertEqual(state(bench), before)
        self.assertEqual(bench.made, (("put", (3, (1, 2))), ("corner", 2, row("5 3"))))
        self.assertEqual(bench.stops, stops("0:1/4 0:3/4 3:1/2"))

    def test_benches_are_apart(self):
        one, other = Bench(work(EIGHT)), Bench(work(EIGHT))
        one.make(("put", (7, (1, GREAT))))
        self.assertEqual((one.stops, other.stops), (((7, (1, GREAT)),), ()))
        self.assertEqual((len(one), len(other)), (1, 0))

    def test_what_is_told_does_not_change(self):
        bench = Bench(work(BOX), BEGUN)
        told, some, made = bench.work, bench.stops, bench.made
        bench.make(("corner", 2, row("5 3")))
        bench.make(LEFT)
        self.assertEqual((told, some, made), (work(BOX), BEGUN, ()))


if __name__ == "__main__":
    unittest.main()
