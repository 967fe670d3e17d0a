"""[5.9], [5.10], [5.11]: greatest turns, turned and placed works, steps."""

import unittest
from fractions import Fraction

from firmstops.barring import is_free
from firmstops.errors import BadDirection, BadPlace, BadStop, BadSteps, BadSwing, BadWay
from firmstops.motions import turn_motion
from firmstops.turns import greatest_turn, is_clear, met_stops, past_own, placed_work, slide_steps, turn_steps
from firmstops.turns import turned_place, turned_work
from firmstops.works import Work

from helpers import BOX, NO_COUPLES, NO_DIRECTIONS, NO_SEQUENCES, NO_SWINGS, NO_WAYS, SKEW, SQUARE, SWINGS, TRIANGLE
from helpers import are_past, couples, hold_cases, is_new_tuple, past_after, ratio, refused, refuses_stops, row
from helpers import some_stops, some_works, stops, turned_by, value, values, work

WAYS = ("left", "right")
GREAT = 10 ** 150 + 7
PLACES = couples("0,0 5/3,13/9 -3,1/2 2,1 7,-4")
NO_STEPS = (0, -1, 101, True, False, None, 1.0, "1", (1, 1), [5], 10 ** 40)


class GreatestTurn(unittest.TestCase):

    def test_by_hand(self):
        told, some = work(TRIANGLE), stops("0:1/2 1:3/5 2:2/3")
        centre = row("5/3 13/9")
        self.assertEqual(greatest_turn(told, some, centre, "left"), ratio("3/13"))
        self.assertEqual(greatest_turn(told, [list(one) for one in some], list(centre), "right"), ratio(0))
        self.assertEqual(met_stops(told, some, centre, "left"), (0,))
        self.assertEqual(met_stops(told, [list(one) for one in some], list(centre), "right"), (0, 1, 2))
        for way in WAYS:
            self.assertIsNone(greatest_turn(told, (), centre, way))
            self.assertEqual(met_stops(told, [], centre, way), ())

    def test_zero_and_none(self):
        told = work(BOX)
        # The place of the stop is the foot of the centre: no turn about it is real.
        self.assertEqual(greatest_turn(told, stops("0:1/4"), row("1 1"), "left"), ratio(0))
        self.assertEqual(met_stops(told, stops("0:1/4"), row("1 1"), "left"), (0,))
        # On the other hand of the side the same turn has no end.
        self.assertIsNone(greatest_turn(told, stops("0:1/4"), row("1 -1"), "left"))
        self.assertEqual(met_stops(told, stops("0:1/4"), row("1 -1"), "left"), ())
        self.assertIsNone(greatest_turn(told, stops("0:1/4"), row("1 0"), "right"))
        # Barred, and grazed in vain beside it.
        self.assertEqual(greatest_turn(told, stops("0:1/4 0:3/4"), row("1 1"), "left"), ratio(0))
        self.assertEqual(met_stops(told, stops("0:1/4 0:3/4"), row("1 1"), "left"), (0,))
        self.assertEqual(met_stops(told, stops("0:1/4 0:3/4"), row("1 1"), "right"), (1,))
        self.assertEqual(met_stops(told, stops("0:1/4 0:3/4"), row("4 1"), "left"), (0, 1))
        self.assertEqual(greatest_turn(told, stops("0:1/4 0:3/4"), row("4 1"), "right"), ratio(1))
        self.assertEqual(met_stops(told, stops("0:1/4 0:3/4"), row("4 1"), "right"), (1,))
        self.assertEqual(met_stops(told, stops("0:1/4 0:3/4 0:1/4 2:1/2 0:3/4"), row("4 1"), "right"), (3,))

    def test_several_stops_are_met(self):
        told = work(BOX)
        some = stops("0:3/4 1:1/2 0:3/4 0:1/2")
        self.assertEqual(greatest_turn(told, some, row("4 1"), "right"), ratio(1))
        self.assertEqual(met_stops(told, some, row("4 1"), "right"), (0, 2))
        self.assertEqual(greatest_turn(told, some, row("4 1"), "left"), ratio(0))
        self.assertEqual(met_stops(told, some, row("4 1"), "left"), (0, 2, 3))

    def test_turns(self):
        seen = {}
        for told, some in hold_cases():
            for centre in PLACES + (told.middle,):
                for way in WAYS:
                    found = greatest_turn(told, some, centre, way)
                    met = met_stops(told, some, centre, way)
                    self.is_right(told, some, centre, way, found, met)
                    kind = None if found is None else found[0] > 0
                    seen[kind] = seen.get(kind, 0) + 1
        self.assertGreater(min(seen[kind] for kind in (None, True, False)), 40)

    def is_right(self, told, some, centre, way, found, met):
        is_new_tuple(self, (found, met))
        if found is None:
            self.assertEqual(met, ())
            self.assertEqual(past_after(told, some, centre, way, ratio(10 ** 40)), ())
            return
        most = value(found)
        self.assertTrue(set(met) <= set(range(len(some))) and list(met) == sorted(set(met)) and met)
        for by in (Fraction(1, 2), 1):
            if most > 0:
                self.assertEqual(past_after(told, some, centre, way, ratio(most * by)), ())
        beyond = past_after(told, some, centre, way, ratio(most + Fraction(1, 10 ** 80)))
        barred = not is_free(told, some, turn_motion(centre, way))
        if barred:
            self.assertEqual(most, 0)
            # Just the barring ones are past at the least swing, and those that it grazes if they come behind at once.
            self.assertTrue(set(met) <= set(beyond))
            for at in met:
                self.assertFalse(is_free(told, [some[at]], turn_motion(centre, way)))
            for at in set(range(len(some))) - set(met):
                self.assertTrue(is_free(told, [some[at]], turn_motion(centre, way)))
        else:
            self.assertEqual(beyond, met)

    def test_great_numbers(self):
        told = Work([row(0, 0), row(4 * GREAT, 0), row(4 * GREAT, 2), row(0, 2)])
        found = greatest_turn(told, stops("0:1/4 0:3/4"), row(4 * GREAT, 1), "right")
        self.assertEqual(found, ratio(GREAT))
        found = greatest_turn(told, [(0, ratio(Fraction(GREAT - 1, GREAT)))], row(4 * GREAT, GREAT), "right")
        self.assertEqual(found, ratio(Fraction(4, GREAT)))

    def test_refuses(self):
        told, some = work(TRIANGLE), stops("0:1/4 1:1/2 2:1/2")
        for ask in (greatest_turn, met_stops):
            refuses_stops(self, lambda one: ask(told, one, None, None))
            for kept in (some, ()):
                for way in NO_WAYS:
                    refused(self, BadWay, lambda: ask(told, kept, None, way))
                for place in NO_COUPLES:
                    refused(self, BadPlace, lambda: ask(told, kept, place, "left"))


class Turned(unittest.TestCase):

    def test_places_by_hand(self):
        self.assertEqual(turned_place(row("1 0"), row("0 0"), "left", ratio(1)), row("0 1"))
        self.assertEqual(turned_place(list(row("1 0")), list(row("0 0")), "right", ratio(1)), row("0 -1"))
        self.assertEqual(turned_place(row("1 0"), row("0 0"), "left", ratio("1/2")), row("3/5 4/5"))
        self.assertEqual(turned_place(row("1 0"), row("0 0"), "right", ratio("1/3")), row("4/5 -3/5"))
        self.assertEqual(turned_place(row("1 0"), row("0 0"), "left", ratio(2)), row("-3/5 4/5"))
        self.assertEqual(turned_place(row("5 2"), row("2 2"), "left", ratio(1)), row("2 5"))
        self.assertEqual(turned_place(row("5 -2/7"), row("2 2"), "right", ratio(0)), row("5 -2/7"))
        is_new_tuple(self, turned_place(list(row("5 2")), list(row("2 2")), "left", ratio(1)))

    def test_places(self):
        swings = [ratio(text) for text in SWINGS] + [(1, GREAT), (GREAT, 1)]
        for place in PLACES:
            for centre in PLACES:
                for way in WAYS:
                    for swing in swings:
                        expected = row(*turned_by(place, centre, way, swing))
                        self.assertEqual(turned_place(place, centre, way, swing), expected)
                        back = "right" if way == "left" else "left"
                        self.assertEqual(turned_place(expected, centre, back, swing), place)

    def test_works(self):
        for told in some_works():
            for way in WAYS:
                for text in SWINGS:
                    found = turned_work(told, list(PLACES[1]), way, ratio(text))
                    expected = [row(*turned_by(corner, PLACES[1], way, ratio(text))) for corner in told.corners]
                    self.assertEqual(found, Work(expected))
        self.assertEqual(turned_work(work(BOX), row("0 0"), "left", ratio(1)), work(BOX).turned())

    def test_placed(self):
        by = row("7/2 -3")
        for told in some_works():
            for way in WAYS:
                for text in SWINGS:
                    found = placed_work(told, way, ratio(text), list(by))
                    self.assertEqual(found, turned_work(told, row("0 0"), way, ratio(text)).shifted(by))
        self.assertEqual(placed_work(work(BOX), "left", ratio(1), row("1 0")), work("1,0 1,4 -1,4 -1,0"))
        self.assertEqual(placed_work(work(BOX), "right", ratio(0), row("0 0")), work(BOX))

    def test_refuses(self):
        told, place = work(SKEW), PLACES[0]
        for way in NO_WAYS:
            refused(self, BadWay, lambda: turned_place(None, None, way, None))
            refused(self, BadWay, lambda: turned_work(told, None, way, None))
            refused(self, BadWay, lambda: placed_work(told, way, None, None))
        for thing in NO_COUPLES:
            refused(self, BadPlace, lambda: turned_place(thing, place, "left", None))
            refused(self, BadPlace, lambda: turned_place(place, thing, "left", None))
            refused(self, BadPlace, lambda: turned_work(told, thing, "right", None))
            refused(self, BadPlace, lambda: placed_work(told, "left", None, thing))
        for swing in NO_SWINGS:
            refused(self, BadSwing, lambda: turned_place(place, place, "left", swing))
            refused(self, BadSwing, lambda: turned_work(told, place, "right", swing))
            refused(self, BadSwing, lambda: placed_work(told, "left", swing, place))


class Placed(unittest.TestCase):

    def test_past_own_by_hand(self):
        told = work(BOX)
        some = stops("0:1/4 0:3/4 2:1/2")
        self.assertEqual(past_own(told, some, told), ())
        self.assertEqual(past_own(told, some, told.shifted(row("0 -1"))), (0, 1))
        self.assertEqual(past_own(told, [list(one) for one in some], told.shifted(row("50 1/9"))), (2,))
        self.assertEqual(past_own(told, some, told.shifted(row("50 0"))), ())
        self.assertEqual(past_own(told, (), told.shifted(row("0 -1"))), ())
        self.assertEqual(past_own(told, some, turned_work(told, row("2 0"), "left", ratio("1/9"))), (0, 2))

    def test_past_own(self):
        for told in some_works():
            some = some_stops(told, 240, 8)
            for way in WAYS:
                for text in SWINGS:
                    placed = placed_work(told, way, ratio(text), row("1/7 -1/9"))
                    found = past_own(told, some, placed)
                    self.assertEqual(found, are_past(told, some, [values(one) for one in placed.corners]))
                    is_new_tuple(self, found)

    def test_past_own_refuses(self):
        told = work(TRIANGLE)
        refuses_stops(self, lambda some: past_own(told, some, told))
        refused(self, BadStop, lambda: past_own(told, stops("0:1/2 7:1/2"), work(SQUARE)), 1, "side")

    def test_is_clear(self):
        told = work(BOX)
        self.assertIs(is_clear(told, couples("0,0 4,1 2,0 5,5 -1,1")), True)
        self.assertIs(is_clear(told, [list(row("1 1"))]), False)
        self.assertIs(is_clear(told, couples("0,0 4,1 1/99,1/99")), False)
        self.assertIs(is_clear(told, ()), True)
        self.assertIs(is_clear(told, []), True)
        self.assertIs(is_clear(told, (row(Fraction(1, GREAT), 1),)), False)
        self.assertIs(is_clear(told, (row(Fraction(-1, GREAT), 1),)), True)
        for thing in NO_COUPLES:
            refused(self, BadPlace, lambda: is_clear(told, (row("5 5"), thing)))
            refused(self, BadPlace, lambda: is_clear(told, [row("1 1"), thing]))
        for thing in NO_SEQUENCES:
            refused(self, BadPlace, lambda: is_clear(told, thing))


class Steps(unittest.TestCase):

    def test_turn_steps(self):
        told, centre = work(SKEW), PLACES[1]
        for many in (1, 2, 7, 100):
            for way in WAYS:
                found = list(turn_steps(told, list(centre), way, ratio("3/2"), many))
                self.assertEqual(len(found), many + 1)
                self.assertTrue(all(isinstance(one, Work) for one in found))
                self.assertEqual(found[0], told)
                self.assertEqual(found[-1], turned_work(told, centre, way, ratio("3/2")))
                for at in (1, many // 2, many):
                    swing = ratio(Fraction(3, 2) * at / many)
                    self.assertEqual(found[at], turned_work(told, centre, way, swing))
        self.assertEqual(list(turn_steps(told, centre, "left", ratio(0), 3)), [told] * 4)

    def test_slide_steps(self):
        told = work(SKEW)
        for many in (1, 2, 7, 100):
            found = list(slide_steps(told, list(row("1/3 -2")), many))
            self.assertEqual(found, [told.shifted(row(Fraction(at, 3), -2 * at)) for at in range(many + 1)])

    def test_refuses(self):
        told, centre = work(SKEW), PLACES[1]
        for way in NO_WAYS:
            refused(self, BadWay, lambda: list(turn_steps(told, None, way, None, None)))
        for thing in NO_COUPLES:
            refused(self, BadPlace, lambda: list(turn_steps(told, thing, "left", None, None)))
        for swing in NO_SWINGS:
            refused(self, BadSwing, lambda: list(turn_steps(told, centre, "left", swing, None)))
        for thing in NO_DIRECTIONS:
            refused(self, BadDirection, lambda: list(slide_steps(told, thing, None)))
        for many in NO_STEPS:
            refused(self, BadSteps, lambda: list(turn_steps(told, centre, "left", ratio(1), many)))
            refused(self, BadSteps, lambda: list(slide_steps(told, row("1 0"), many)))


if __name__ == "__main__":
    unittest.main()
