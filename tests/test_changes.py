"""[10.6]: changes of a work with stops, one by one and one after another."""

import random
import unittest

from firmstops.changes import apply_change, apply_changes, check_form
from firmstops.errors import BadChange
from firmstops.works import Work

from helpers import BOX, EIGHT, NO_COUPLES, NO_RATIOS, NO_SEQUENCES, SKEW, TRIANGLE, Alike
from helpers import couples, is_new_tuple, ratio, refused, refuses_stops, row, some_stops, some_works
from helpers import stops, values, work

GREAT = 10 ** 280 + 3
STOP = (0, (1, 2))
EIGHT_STOPS = (STOP,) * 8
NO_SPOTS = NO_RATIOS + (Alike(), (0, 1), (1, 1), (-1, 2), (3, 2), (1, -2), (GREAT, GREAT - 1))

# Things that are no stop of a triangle.
NO_STOP = NO_SEQUENCES + (
    Alike(), (), (0,), (0, (1, 2), (1, 2)), ((1, 2), 0), (3, (1, 2)), (-1, (1, 2)), [True, (1, 2)], (None, (1, 2)),
    (0, None), [0, (1, 1)], (0, (0, 1)), (0, (2, 4)), (0, [1, 2]), "ab",
)
NO_CHANGES = NO_SEQUENCES + (
    Alike(), (), [], ("put",), ("take",), ("move",), ("corner",), ("put", STOP, STOP), ("take", STOP, (1, 2)),
    ("move", STOP), ("move", STOP, (1, 2), 0), ("corner", 0), ("corner", 0, row("1 1"), 0), ("Put", STOP),
    ("puts", STOP), (None, STOP), (0, STOP), (b"put", STOP), (["put"], STOP), (("put",), STOP), ({}, STOP),
    (Alike(), STOP),
    ("", STOP), ("firm",), ("put take", STOP), ((1, 2), (1, 2)), ["move", STOP], ["corners", 0, row("1 1")],
)


def wrong_forms():
    """Things that are no change of a triangle by their form, with the word that tells why."""
    found = [(thing, "change") for thing in NO_CHANGES]
    for thing in NO_STOP:
        found += [(("put", thing), "stop"), (["take", thing], "stop"), (("move", thing, None), "stop"),
                  (["move", thing, (1, 2)], "stop")]
    found += [(("move", STOP, thing), "spot") for thing in NO_SPOTS]
    for thing in (-1, 3, True, False, None, 1.0, "0", (0, 1), [0], GREAT, Alike()):
        found += [(("corner", thing, None), "corner"), (["corner", thing, row("1 1")], "corner")]
    found += [(("corner", 1, thing), "place") for thing in NO_COUPLES]
    return found


def right_forms():
    """Changes of a triangle of right forms, whether they can be applied or not."""
    for stop in (STOP, [1, (1, GREAT)], (2, (GREAT - 1, GREAT))):
        yield from (("put", stop), ["put", stop], ("take", stop), ["take", stop])
        yield from (("move", stop, (1, 2)), ["move", stop, (1, GREAT)])
    for place in (row("0 0"), list(row(GREAT, "-1/2"))):
        yield from (("corner", 0, place), ["corner", 2, place])


class Form(unittest.TestCase):

    def test_right(self):
        for change in right_forms():
            self.assertIsNone(check_form(work(TRIANGLE), change))
        self.assertIsNone(check_form(work(EIGHT), ("put", (7, (1, 2)))))
        self.assertIsNone(check_form(work(EIGHT), ["corner", 7, row("0 0")]))

    def test_wrong(self):
        for change, what in wrong_forms():
            refused(self, BadChange, lambda: check_form(work(TRIANGLE), change), 0, what)

    def test_the_first_word_comes_first(self):
        told = work(TRIANGLE)
        for change, what in ((("move", (3, (1, 2)), (2, 4)), "stop"), (("move", STOP, (2, 4)), "spot"),
                             (("corner", 3, None), "corner"), (("move", None), "change"), (("corner", None), "change")):
            refused(self, BadChange, lambda: check_form(told, change), 0, what)


class Applied(unittest.TestCase):

    def test_put(self):
        told = work(BOX)
        for form in (tuple, list):
            found = apply_change(told, stops("0:1/2"), form(("put", [3, (1, 4)])))
            self.assertIsInstance(found, tuple)
            self.assertEqual(found, (told, stops("0:1/2 3:1/4")))
            is_new_tuple(self, found[1])
        self.assertEqual(apply_change(told, [], ("put", STOP)), (told, (STOP,)))
        # One that is equal to another is put behind it.
        self.assertEqual(apply_change(told, stops("0:1/2 1:1/2"), ("put", STOP)), (told, stops("0:1/2 1:1/2 0:1/2")))
        self.assertEqual(apply_change(told, EIGHT_STOPS[1:], ("put", STOP)), (told, EIGHT_STOPS))

    def test_put_to_eight(self):
        for stop in (STOP, [3, (1, 4)]):
            refused(self, BadChange, lambda: apply_change(work(BOX), EIGHT_STOPS, ("put", stop)), 0, "many")
            refused(self, BadChange, lambda: apply_change(work(BOX), list(EIGHT_STOPS), ["put", stop]), 0, "many")

    def test_take(self):
        told, some = work(BOX), stops("0:1/2 1:1/2 0:1/2 3:1/4")
        for form in (tuple, list):
            self.assertEqual(apply_change(told, some, form(("take", stops("3:1/4")[0]))), (told, some[:3]))
            # The first of two equal ones goes.
            self.assertEqual(apply_change(told, some, form(("take", [0, (1, 2)]))), (told, stops("1:1/2 0:1/2 3:1/4")))
        self.assertEqual(apply_change(told, [[0, (1, 2)]], ("take", STOP)), (told, ()))
        self.assertEqual(apply_change(told, EIGHT_STOPS, ("take", STOP)), (told, EIGHT_STOPS[1:]))

    def test_move(self):
        told, some = work(BOX), stops("0:1/2 1:1/2 0:1/2 3:1/4")
        for form in (tuple, list):
            # It stays at its place in the order, and the first of two equal ones goes.
            self.assertEqual(apply_change(told, some, form(("move", [0, (1, 2)], (1, 5)))),
                             (told, stops("0:1/5 1:1/2 0:1/2 3:1/4")))
            self.assertEqual(apply_change(told, some, form(("move", (1, (1, 2)), (1, GREAT)))),
                             (told, some[:1] + ((1, (1, GREAT)),) + some[2:]))
        self.assertEqual(apply_change(told, some, ("move", STOP, (1, 2))), (told, some))
        # It may be moved to where another one is.
        self.assertEqual(apply_change(told, stops("0:1/3 0:1/2"), ("move", (0, (1, 3)), (1, 2))),
                         (told, stops("0:1/2 0:1/2")))
        self.assertEqual(apply_change(told, EIGHT_STOPS, ("move", STOP, (1, 3))),
                         (told, ((0, (1, 3)),) + EIGHT_STOPS[1:]))

    def test_absent(self):
        told, some = work(BOX), stops("0:1/2 1:1/2")
        for stop in ((0, (1, 3)), [2, (1, 2)], (3, (1, GREAT))):
            refused(self, BadChange, lambda: apply_change(told, some, ("take", stop)), 0, "absent")
            refused(self, BadChange, lambda: apply_change(told, some, ["move", stop, (1, 2)]), 0, "absent")
        refused(self, BadChange, lambda: apply_change(told, (), ("take", STOP)), 0, "absent")
        # There is one at the place to which it should be moved, but none to be moved.
        refused(self, BadChange, lambda: apply_change(told, some, ("move", (0, (1, 3)), (1, 2))), 0, "absent")

    def test_corner(self):
        told, some = work(BOX), stops("0:1/2 2:1/3 2:1/3")
        for form in (tuple, list):
            found = apply_change(told, [list(stop) for stop in some], form(("corner", 2, row("5 7/2"))))
            self.assertEqual(found, (work("0,0 4,0 5,7/2 0,2"), some))
            self.assertIsInstance(found[0], Work)
            self.assertEqual(found[0].normals, work("0,0 4,0 5,7/2 0,2").normals)
            found = apply_change(told, some, form(("corner", 0, list(row("-1 -1")))))
            self.assertEqual(found, (work("-1,-1 4,0 4,2 0,2"), some))
            is_new_tuple(self, (found[0].corners, found[1]))
        self.assertEqual(apply_change(told, some, ("corner", 3, row("0 2"))), (told, some))
        self.assertEqual(told.corners, couples("0,0 4,0 4,2 0,2"))

    def test_no_work(self):
        told = work(BOX)
        for number, place in ((0, "4 2"), (0, "4 0"), (1, "2 1"), (2, "1 1"), (2, "4 0"), (3, "5 5"), (2, "0 9"),
                              (1, "-1 -9")):
            refused(self, BadChange, lambda: apply_change(told, (), ("corner", number, row(place))), 0, "work")
        refused(self, BadChange, lambda: apply_change(work(TRIANGLE), (STOP,), ["corner", 0, row("4 3")]), 0, "work")
        # A corner on the line of two others makes no work either.
        refused(self, BadChange, lambda: apply_change(told, (STOP,), ["corner", 0, row("2 1")]), 0, "work")

    def test_wrong_forms(self):
        for change, what in wrong_forms():
            refused(self, BadChange, lambda: apply_change(work(TRIANGLE), stops("0:1/2"), change), 0, what)

    def test_faults_of_form_come_first(self):
        told = work(TRIANGLE)
        for change, what in ((("put", (3, (1, 2))), "stop"), (("put",), "change"), (("move", (1, (1, 2)), 1), "spot"),
                             (("take", (0, (1, 1))), "stop"), (("corner", 3, row("0 0")), "corner")):
            refused(self, BadChange, lambda: apply_change(told, EIGHT_STOPS, change), 0, what)
        refuses_stops(self, lambda some: apply_change(told, some, None))

    def test_by_chance(self):
        for told in some_works():
            chance = random.Random(len(told))
            some = list(some_stops(told, 610, 6))
            some[4] = some[1]
            at = chance.randrange(6)
            first = some.index(some[at])
            left = some[:first] + some[first + 1:]
            self.assertEqual(apply_change(told, some, ("take", some[at]))[1], tuple(left))
            moved = some[:first] + [(some[at][0], (1, GREAT))] + some[first + 1:]
            self.assertEqual(apply_change(told, some, ("move", some[at], (1, GREAT)))[1], tuple(moved))
            # A corner that is moved inwards by little leaves a work.
            number = chance.randrange(len(told))
            ahead = zip(values(told.corners[number]), values(told.middle))
            place = row(*[one + (aim - one) / 10 ** 9 for one, aim in ahead])
            found = apply_change(told, some, ("corner", number, place))
            self.assertEqual(found[0].corners, told.corners[:number] + (place,) + told.corners[number + 1:])
            self.assertEqual(found[1], tuple(some))


class AllApplied(unittest.TestCase):

    def test_none(self):
        told = work(BOX)
        for changes in ((), []):
            found = apply_changes(told, [[0, (1, 2)]], changes)
            self.assertEqual(found, (told, stops("0:1/2")))
            is_new_tuple(self, found[1])

    def test_in_order(self):
        told = work(BOX)
        changes = [("put", (1, (1, 2))), ["move", (1, (1, 2)), (1, 3)], ("take", STOP), ["corner", 1, row("5 -1")],
                   ("put", [3, (1, 2)])]
        self.assertEqual(apply_changes(told, (STOP, STOP), changes),
                         (work("0,0 5,-1 4,2 0,2"), stops("0:1/2 1:1/3 3:1/2")))
        self.assertEqual(apply_changes(told, (STOP, STOP), tuple(changes[:2])), (told, stops("0:1/2 0:1/2 1:1/3")))
        # What is put first can be taken behind.
        self.assertEqual(apply_changes(told, EIGHT_STOPS, [("take", STOP), ("put", STOP)]), (told, EIGHT_STOPS))

    def test_one_after_another(self):
        chance = random.Random(611)
        for told in some_works():
            some, changes = some_stops(told, 612, 3), []
            behind = (told, some)
            for at in range(8):
                stop = some_stops(told, 613 + at, 1)[0]
                change = chance.choice((("put", stop), ("take", chance.choice(behind[1] or (stop,))),
                                        ("move", chance.choice(behind[1] or (stop,)), stop[1])))
                if change[0] == "put" and len(behind[1]) == 8 or change[0] != "put" and not behind[1]:
                    continue
                changes.append(chance.choice((tuple, list))(change))
                behind = apply_change(*behind, changes[-1])
                self.assertEqual(apply_changes(told, some, changes), behind)
                self.assertEqual(apply_changes(told, list(some), tuple(changes)), behind)

    def test_eight_and_nine(self):
        told = work(BOX)
        self.assertEqual(apply_changes(told, (), [("put", STOP)] * 8), (told, EIGHT_STOPS))
        for changes in ([("put", STOP)] * 9, (("take", STOP),) * 9, [None] * 9):
            refused(self, BadChange, lambda: apply_changes(told, (), changes), 0, "pool")
        refused(self, BadChange, lambda: apply_changes(told, (STOP,), [("put", STOP)] * 8), 7, "many")

    def test_refuses(self):
        triangle = work(TRIANGLE)
        refuses_stops(self, lambda some: apply_changes(triangle, some, None))
        for thing in NO_SEQUENCES:
            refused(self, BadChange, lambda: apply_changes(triangle, (), thing), 0, "pool")
        for change, what in wrong_forms():
            refused(self, BadChange, lambda: apply_changes(triangle, (), [("put", STOP), change, None]), 1, what)

    def test_the_first_that_cannot_be_applied(self):
        told = work(TRIANGLE)
        for changes, index, what in (
                ([("take", STOP), None], 0, "absent"), ([("put", STOP), ("take", (1, (1, 2))), ("put",)], 1, "absent"),
                ([("put", STOP), ("take", STOP), ("take", STOP)], 2, "absent"),
                ([("put", STOP), ("corner", 0, row("4 3")), None], 1, "work"),
                ([("corner", 0, row("1 1")), ("put", (3, (1, 2)))], 1, "stop"),
                ([("corner", 0, row("-1 -1")), ("corner", 0, row("0 0")), ("corner", 1, row("0 9"))], 2, "work")):
            refused(self, BadChange, lambda: apply_changes(told, (), changes), index, what)

    def test_corners_of_the_present_work(self):
        # Only behind the first change does the second one make a work.
        told = work(TRIANGLE)
        changes = [("corner", 1, row("9 9")), ("corner", 0, row("4 3"))]
        self.assertEqual(apply_changes(told, (), changes)[0], work("4,3 9,9 0,3"))
        refused(self, BadChange, lambda: apply_changes(told, (), changes[::-1]), 0, "work")


class Kept(unittest.TestCase):

    def test_lists_changed_behind_the_call(self):
        told, some, stop, place = work(BOX), [[0, (1, 2)]], [3, (1, 4)], list(row("5 7/2"))
        change = ["put", stop]
        found = apply_change(told, some, change)
        changes = [change, ["corner", 2, place]]
        both = apply_changes(told, some, changes)
        self.assertEqual((some, stop, place), ([[0, (1, 2)]], [3, (1, 4)], list(row("5 7/2"))))
        self.assertEqual((change, changes), (["put", stop], [change, ["corner", 2, place]]))
        some[0][0], stop[0], place[0], change[1] = 2, 2, ratio(99), None
        changes.clear()
        self.assertEqual(found[1], stops("0:1/2 3:1/4"))
        self.assertEqual(both, (work("0,0 4,0 5,7/2 0,2"), stops("0:1/2 3:1/4")))

    def test_other_works(self):
        told = work(SKEW)
        self.assertEqual(apply_change(told, (), ("put", (4, (1, 2))))[1], stops("4:1/2"))
        refused(self, BadChange, lambda: apply_change(told, (), ("put", (5, (1, 2)))), 0, "stop")


if __name__ == "__main__":
    unittest.main()
