"""[5.7], [5.8]: held and loose works, and the judges."""

import random
import unittest
from fractions import Fraction

from firmstops.areas import extent_sign, middle_of
from firmstops.centres import centre_half, centres_of
from firmstops.clasps import Clasp, clasps_of
from firmstops.firm import is_firm
from firmstops.freely import free_slides
from firmstops.held import Held, Slide, Turn, held_fault, held_or_loose, is_held, loose_fault
from firmstops.pushes import rows_of
from firmstops.stops import begun_stops, mirrored_stops
from firmstops.turns import greatest_turn
from firmstops.works import Work

from helpers import BOX, NO_COUPLES, NO_DIRECTIONS, NO_WAYS, TRIANGLE
from helpers import are_firm, are_past, couples, fill_an_area, hold_cases, is_new_tuple, is_result, meetings
from helpers import past_after, ratio, refuses_stops, row, some_stops, stops, turned_by, value, values, work

GREAT = 10 ** 200 + 9
BEND = stops("0:1/4 1:3/5 2:2/3")
LOOSE = stops("0:1/2 1:3/5 2:2/3")
# The clasp of stops 0 and 1 has the twist 0, the one of 1 and 2 a twist below 0, the one of 1 and 3 one above 0.
FIRM = stops("0:1/2 2:1/2 0:1/4 0:3/4 1:1/2 3:1/2")


def is_area(told, some, way):
    return fill_an_area(meetings([centre_half(told, stop, way, ratio(0)) for stop in some]))


class HeldOrLoose(unittest.TestCase):

    def test_the_example(self):
        told = work(TRIANGLE)
        clasp = Clasp((0, 1, 2), row("1 1 1"), ratio(0), ratio(12))
        self.assertEqual(held_or_loose(told, BEND), Held("bend", clasp, clasp))
        self.assertEqual(held_or_loose(told, [list(one) for one in LOOSE]), Turn(row("5/3 13/9"), "left", ratio("3/13")))

    def test_slides_by_hand(self):
        for text, direction in (("", "1 0"), ("0:1/4", "1 0"), ("2:1/4 2:1/2", "-1 0"), ("0:1/4 1:1/2", "0 1"),
                                ("0:1/4 2:1/2", "1 0"), ("1:1/4 3:1/2", "0 1"), ("0:1/4 2:3/4 1:1/2", "-1 0"),
                                ("0:1/4 2:1/4 3:1/2", "1 0"), ("1:1/4 3:1/4 0:1/2", "0 1"), ("2:1/4 3:1/2", "0 -1"),
                                ("1:1/2 2:1/2", "-1 0"), ("3:1/2", "0 -1")):
            found = held_or_loose(work(BOX), stops(text))
            self.assertEqual(found, Slide(row(direction)), text)
            is_new_tuple(self, found.direction)

    def test_held_by_hand(self):
        told = work(BOX)
        found = held_or_loose(told, FIRM)
        some = list(clasps_of(told, FIRM))
        self.assertEqual([clasp.indices for clasp in some], [(0, 1), (1, 2), (1, 3), (4, 5)])
        self.assertEqual([clasp.twist[0] for clasp in some], [0, -4, 4, 0])
        self.assertEqual(found, Held("firm", some[1], some[2]))
        found = held_or_loose(told, stops("1:1/2 3:1/2 0:1/2 2:1/2"))
        some = list(clasps_of(told, stops("1:1/2 3:1/2 0:1/2 2:1/2")))
        self.assertEqual(found, Held("bend", some[0], some[0]))
        half = stops("0:1/2 2:1/2 1:1/2 3:3/4")
        some = list(clasps_of(told, half))
        self.assertEqual([clasp.twist[0] for clasp in some], [0, 1])
        self.assertEqual(held_or_loose(told, half), Held("bend", some[0], some[1]))

    def test_results(self):
        kinds = {}
        for told, some in hold_cases():
            found = held_or_loose(told, [list(one) for one in some])
            kind = found.how if isinstance(found, Held) else found.way if isinstance(found, Turn) else "slide"
            kinds[kind] = kinds.get(kind, 0) + 1
            slides = free_slides(told, some)
            held = slides is None and not is_area(told, some, "left") and not is_area(told, some, "right")
            self.assertIs(is_held(told, [list(one) for one in some]), held)
            self.assertEqual(isinstance(found, Held), held)
            self.assertEqual(isinstance(found, Slide), slides is not None)
            self.is_right(told, some, found)
        self.assertEqual(set(kinds), {"slide", "left", "right", "firm", "bend"})
        self.assertGreater(min(kinds.values()), 3, kinds)

    def is_right(self, told, some, found):
        if isinstance(found, Slide):
            shape = free_slides(told, some)
            self.assertEqual(found.direction, row("1 0") if shape == ("all",) else shape[1])
            self.assertIsNone(loose_fault(told, some, found))
        elif isinstance(found, Turn):
            self.assertEqual(found.way, "left" if is_area(told, some, "left") else "right")
            self.assertEqual(found.centre, middle_of(centres_of(told, some, found.way)))
            self.assertEqual(found.most, greatest_turn(told, some, found.centre, found.way))
            self.assertGreater(value(found.most), 0)
            self.assertIsNone(loose_fault(told, some, found))
        else:
            self.held_is_right(told, some, found)

    def held_is_right(self, told, some, found):
        clasps = list(clasps_of(told, some))
        twists = [value(clasp.twist) for clasp in clasps]
        below = [at for at, twist in enumerate(twists) if twist < 0] + [at for at, twist in enumerate(twists) if twist == 0]
        above = [at for at, twist in enumerate(twists) if twist > 0] + [at for at, twist in enumerate(twists) if twist == 0]
        self.assertEqual((found.left, found.right), (clasps[below[0]], clasps[above[0]]))
        self.assertEqual(found.how, "firm" if are_firm(rows_of(told, some)) else "bend")
        self.assertEqual(found.how == "firm", is_firm(told, some))
        self.assertIsNone(held_fault(told, some, found))

    def test_real_motions(self):
        chance = random.Random(250)
        for told, some in hold_cases():
            found = held_or_loose(told, some)
            if isinstance(found, Held):
                self.no_motion_is_real(chance, told, some)
            elif isinstance(found, Turn):
                for by in (Fraction(1, 10 ** 50), Fraction(1, 2), 1):
                    swing = ratio(by * value(found.most))
                    self.assertEqual(past_after(told, some, found.centre, found.way, swing), ())
                beyond = ratio(value(found.most) * (1 + Fraction(1, 10 ** 50)))
                self.assertNotEqual(past_after(told, some, found.centre, found.way, beyond), ())
            else:
                dx, dy = values(found.direction)
                for far in (Fraction(1, 10 ** 50), 1, 10 ** 50):
                    corners = [(x + far * dx, y + far * dy) for x, y in map(values, told.corners)]
                    self.assertEqual(are_past(told, some, corners), ())

    def no_motion_is_real(self, chance, told, some):
        for _ in range(12):
            swing = chance.choice((Fraction(0), Fraction(1, 10 ** 30), Fraction(1, 50), Fraction(3, 2)))
            size = chance.choice((Fraction(1, 10 ** 40), Fraction(1, 100), Fraction(2)))
            way, about = chance.choice(("left", "right")), told.middle
            shift = (size * chance.randrange(-5, 6), size * chance.randrange(-5, 6))
            if swing or any(shift):
                corners = [turned_by(corner, about, way, ratio(swing)) for corner in told.corners]
                corners = [(x + shift[0], y + shift[1]) for x, y in corners]
                self.assertNotEqual(are_past(told, some, corners), ())

    def test_seen_otherwise(self):
        for told, some in hold_cases(5):
            held = is_held(told, some)
            self.assertEqual(is_held(told.mirrored(), mirrored_stops(told, some)), held)
            self.assertEqual(is_held(told.begun_at(1), begun_stops(told, some, 1)), held)
            self.assertEqual(is_held(told.turned(), some), held)
            self.assertEqual(is_held(told.shifted(row("9 -1/3")), some), held)

    def test_eight_stops(self):
        for told, _ in hold_cases(0):
            some = some_stops(told, 251, 8)
            self.is_right(told, some, held_or_loose(told, some))

    def test_great_numbers(self):
        told = Work(couples("0,0") + (row(4 * GREAT, 0), row(0, 3 * GREAT)))
        self.assertEqual(held_or_loose(told, BEND).how, "bend")
        near = ((0, ratio(Fraction(1, 4) + Fraction(1, GREAT))),) + BEND[1:]
        found = held_or_loose(told, near)
        self.assertEqual(found.way, "left")
        self.assertEqual(extent_sign(centres_of(told, near, "left"), found.centre), 1)

    def test_stops_come_first(self):
        told = work(TRIANGLE)
        refuses_stops(self, lambda some: held_or_loose(told, some), lambda some: is_held(told, some))

    def test_classes(self):
        others = (None, "other", row("9 9"))
        clasp = Clasp((0, 1), row("1 1"), ratio(0), ratio(1))
        is_result(self, Held, {"how": "firm", "left": clasp, "right": 7}, others)
        is_result(self, Slide, {"direction": [ratio(0)] * 2}, others)
        is_result(self, Turn, {"centre": ["x"], "way": {}, "most": None}, ("other", row("9 9")))
        self.assertEqual(Held("bend", clasp, clasp), Held("bend", Clasp((0, 1), row("1 1"), ratio(0), ratio(1)), clasp))
        self.assertNotEqual(Held("bend", clasp, clasp), Held("bend", Clasp((0, 2), row("1 1"), ratio(0), ratio(1)), clasp))


class HeldFault(unittest.TestCase):

    def word(self, expected, how, left, right, some=FIRM, text=BOX):
        self.assertEqual(held_fault(work(text), some, Held(how, left, right)), expected)

    def clasps(self, some=FIRM, text=BOX):
        return list(clasps_of(work(text), some))

    def test_other_clasps_are_let(self):
        zero, below, above, other = self.clasps()
        for left in (zero, below, other):
            for right in (zero, above, other):
                self.word(None, "firm", left, right)
                self.word(None, "firm", Clasp(list(left.indices), list(left.amounts), left.twist, left.span), right)
                self.word("how", "bend", left, right)

    def test_slide(self):
        zero = self.clasps()[0]
        for some in ((), [], stops("0:1/2 2:1/2"), stops("0:1/2 2:1/2 1:1/2")):
            self.word("slide", "bend", zero, zero, some)
            self.word("slide", None, None, None, some)

    def test_left(self):
        zero, _, above, _ = self.clasps()
        wrong = Clasp(zero.indices, zero.amounts, ratio(-1), zero.span)
        for thing in (above, wrong, None, 7, (0, 1), Slide(row("1 0")), Clasp((1, 0), None, None, None),
                      Clasp(zero.indices, zero.amounts, zero.twist, ratio(1)), Clasp((0, 9), zero.amounts, ratio(-1), 1)):
            self.word("left", "firm", thing, above)
            self.word("left", "bend", thing, None)

    def test_right(self):
        zero, below, _, _ = self.clasps()
        wrong = Clasp(zero.indices, zero.amounts, ratio(1), zero.span)
        for thing in (below, wrong, None, "firm", Clasp(zero.indices, row("2 2"), zero.twist, zero.span)):
            self.word("right", "firm", below, thing)
            self.word("right", "no", zero, thing)

    def test_how(self):
        zero, below, above, _ = self.clasps()
        for how in ("bend", "Firm", "", None, "held", ("firm",), True):
            self.word("how", how, below, above)
            self.word("how", how, zero, zero)
        clasp = self.clasps(BEND, TRIANGLE)[0]
        self.word(None, "bend", clasp, clasp, BEND, TRIANGLE)
        for how in ("firm", "Bend", "", None):
            self.word("how", how, clasp, clasp, BEND, TRIANGLE)

    def test_loose_works(self):
        told = work(TRIANGLE)
        clasp = list(clasps_of(told, LOOSE))[0]
        self.word("left", "bend", clasp, clasp, LOOSE, TRIANGLE)
        other = mirrored_stops(told, LOOSE)
        clasp = list(clasps_of(told.mirrored(), other))[0]
        self.assertEqual(held_fault(told.mirrored(), other, Held("bend", clasp, clasp)), "right")


class LooseFault(unittest.TestCase):

    def test_slides(self):
        told = work(BOX)
        for some in ((), FIRM, stops("0:1/2")):
            for direction in NO_DIRECTIONS:
                self.assertEqual(loose_fault(told, some, Slide(direction)), "direction")
        some = stops("0:1/2 2:1/2 3:1/4")
        for direction in (row("1 0"), list(row("7/3 0")), row(GREAT, 0)):
            self.assertIsNone(loose_fault(told, some, Slide(direction)))
        for direction in (row("-1 0"), row("1 1"), row("0 -1"), row(GREAT, 1)):
            self.assertEqual(loose_fault(told, some, Slide(direction)), "barred")
        self.assertEqual(loose_fault(told, FIRM, Slide(row("1 0"))), "barred")
        self.assertIsNone(loose_fault(told, (), Slide(row("-3 5"))))

    def word(self, expected, centre, way, most, some=LOOSE, text=TRIANGLE):
        self.assertEqual(loose_fault(work(text), some, Turn(centre, way, most)), expected)

    def test_any_centre_is_let(self):
        told = work(TRIANGLE)
        for centre in (row("5/3 13/9"), row("19/10 11/10"), [ratio(Fraction(1001, 1000)), ratio(Fraction(10001, 10000))]):
            most = greatest_turn(told, LOOSE, centre, "left")
            self.word(None, centre, "left", most)
            self.word("most", centre, "left", ratio(value(most) + Fraction(1, GREAT)))
        self.word(None, row("5/3 13/9"), "left", ratio("3/13"))

    def test_no_greatest_turn(self):
        for way in ("left", "right"):
            self.word(None, row("1 1"), way, None, ())
            self.word("most", row("1 1"), way, ratio(1), ())
        self.word(None, row("1 -1"), "right", None, stops("0:1/8 0:1/5"))
        self.word("most", row("1 -1"), "right", ratio(0), stops("0:1/8 0:1/5"))

    def test_centre(self):
        for centre in NO_COUPLES:
            self.word("centre", centre, None, None)
            self.word("centre", centre, "left", ratio(1), ())

    def test_way(self):
        for way in NO_WAYS:
            self.word("way", row("5/3 13/9"), way, ratio("3/13"))
            self.word("way", list(row("0 0")), way, None)

    def test_barred(self):
        for centre in (row("1 1"), row("2 1"), row("3/2 1"), row("0 0"), row("3 3")):
            self.word("barred", centre, "left", ratio("3/13"))
        self.word("barred", row("5/3 13/9"), "right", ratio("3/13"))
        self.word("barred", row("1 1"), "right", None, BEND)

    def test_most(self):
        for most in (ratio("3/14"), ratio(0), ratio(-1), None, 0, [3, 13], (6, 26), "3/13"):
            self.word("most", row("5/3 13/9"), "left", most)


if __name__ == "__main__":
    unittest.main()
