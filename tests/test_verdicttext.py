"""[1.10]: texts of verdicts."""

import unittest
from fractions import Fraction

from firmstops.errors import BadText
from firmstops.held import Held, Slide, Turn, held_or_loose, loose_fault
from firmstops.verdicttext import parse_verdict, verdict_text

from helpers import TRIANGLE
from helpers import hold_cases, is_new_tuple, ratio, refused, row, stops, work

from test_worktext import LONGEST, LONGEST_RATIO, NO_NUMBERS


class Texts(unittest.TestCase):

    def test_by_hand(self):
        told = work(TRIANGLE)
        self.assertEqual(verdict_text(held_or_loose(told, stops("0:1/4 1:3/5 2:2/3"))), "held bend")
        self.assertEqual(verdict_text(held_or_loose(told, stops("0:1/8 0:1/2 1:3/5 2:2/3"))), "held firm")
        self.assertEqual(verdict_text(held_or_loose(told, ())), "slide 1 0")
        self.assertEqual(verdict_text(held_or_loose(told, stops("0:1/2 1:3/5 2:2/3"))), "turn 5/3,13/9 left 3/13")
        self.assertEqual(verdict_text(Held("firm", None, None)), "held firm")

    def test_any_ratios(self):
        for text in ("slide 0 0", "slide -7/2 1/3", "slide 0 -5", "turn 0,0 right 0", "turn -1/2,7 left -3/4",
                     "turn 1,-9/5 right 10"):
            told = parse_verdict(text)
            self.assertIs(told.__class__, Slide if text.startswith("slide") else Turn)
            is_new_tuple(self, tuple(vars(told).values()))
            self.assertEqual(verdict_text(told), text)
        self.assertEqual(parse_verdict("slide -7/2 1/3"), Slide(row("-7/2 1/3")))
        self.assertEqual(parse_verdict("turn -1/2,7 left -3/4"), Turn(row("-1/2 7"), "left", ratio("-3/4")))
        self.assertEqual(verdict_text(Slide([ratio(1), ratio("-1/2")])), "slide 1 -1/2")
        self.assertEqual(verdict_text(Turn([ratio(1), ratio("-1/2")], "right", ratio(5))), "turn 1,-1/2 right 5")

    def test_what_is_read_has_the_text(self):
        kinds = set()
        for told, some in hold_cases(4):
            verdict = held_or_loose(told, some)
            text = verdict_text(verdict)
            kinds.add(text.split(" ")[0])
            if isinstance(verdict, Held):
                self.assertEqual(text, "held " + verdict.how)
            elif all(len(part) <= 300 for word in text.split(" ") for part in word.split(",")):
                self.assertEqual(parse_verdict(text), verdict)
                self.assertIsNone(loose_fault(told, some, parse_verdict(text)))
        self.assertEqual(kinds, {"held", "slide", "turn"})

    def test_what_is_read_is_judged_by_loose_fault_alone(self):
        told, some = work(TRIANGLE), stops("0:1/2 1:3/5 2:2/3")
        for text, word in (("slide 0 0", "direction"), ("slide 1 0", "barred"), ("turn 0,0 left 1", "barred"),
                           ("turn 5/3,13/9 left -1", "most"), ("turn 5/3,13/9 left 3/13", None)):
            self.assertEqual(loose_fault(told, some, parse_verdict(text)), word)

    def test_longer_ones_are_written(self):
        great = 10 ** 400
        self.assertEqual(verdict_text(Slide(row(great, Fraction(1, great)))), f"slide {great} 1/{great}")
        self.assertEqual(verdict_text(Turn(row(1, -great), "left", ratio(great))), f"turn 1,{-great} left {great}")


class Reading(unittest.TestCase):

    def test_word(self):
        for text in ("", " ", "held", "held firm", "held bend", "Slide 1 0", "slides 1 0", " slide 1 0", "1 0", "turned",
                     "turn,1 2 left 3", "none", "slide\n1 0", "rest", "left"):
            refused(self, BadText, lambda: parse_verdict(text), 0, "word")

    def test_size(self):
        for text in ("slide", "slide ", "slide 1", "slide 1 2 3", "slide 1 2 ", "slide  1 2", "slide x", "slide x y z",
                     "turn", "turn 1,2", "turn 1,2 left", "turn 1,2 left 3 4", "turn  1,2 left 3", "turn 1 2 left 3",
                     "turn x y", "turn 1,2 left 3 "):
            refused(self, BadText, lambda: parse_verdict(text), 0, "size")

    def test_numbers_of_a_slide(self):
        for part in NO_NUMBERS:
            if " " not in part:
                refused(self, BadText, lambda: parse_verdict("slide " + part + " 1"), 1, "number")
                refused(self, BadText, lambda: parse_verdict("slide 1 " + part), 2, "number")
        refused(self, BadText, lambda: parse_verdict("slide x y"), 1, "number")
        refused(self, BadText, lambda: parse_verdict("slide 1,2 3"), 1, "number")

    def test_numbers_of_a_turn(self):
        for part in NO_NUMBERS:
            refused(self, BadText, lambda: parse_verdict("turn " + part + ",1 left 2"), 1, "number")
            refused(self, BadText, lambda: parse_verdict("turn 1," + part + " left 2"), 1, "number")
            refused(self, BadText, lambda: parse_verdict("turn 1,2 left " + part), 3, "number")
        for part in ("1", "", ",", "1,", "1,2,3", "1,2,", ",1,2", "1;2", "1/2"):
            refused(self, BadText, lambda: parse_verdict("turn " + part + " left 2"), 1, "number")

    def test_way(self):
        for way in ("", "Left", "RIGHT", "l", "leftt", "0", "left,", "right\n", "1/2"):
            refused(self, BadText, lambda: parse_verdict("turn 1,2 " + way + " 3"), 2, "way")

    def test_word_by_word(self):
        refused(self, BadText, lambda: parse_verdict("turn 1 up x"), 1, "number")
        refused(self, BadText, lambda: parse_verdict("turn 1,2 up x"), 2, "way")
        refused(self, BadText, lambda: parse_verdict("turn 1,2 left x"), 3, "number")
        refused(self, BadText, lambda: parse_verdict("held x y z"), 0, "word")

    def test_three_hundred_signs(self):
        for long in (LONGEST, "-" + LONGEST[1:], LONGEST_RATIO, "1/" + "3" * 298):
            self.assertEqual(len(long), 300)
            self.assertEqual(parse_verdict(f"slide {long} {long}"), Slide((ratio(long), ratio(long))))
            found = parse_verdict(f"turn {long},{long} right {long}")
            self.assertEqual(found, Turn((ratio(long), ratio(long)), "right", ratio(long)))
            self.assertEqual(verdict_text(found), f"turn {long},{long} right {long}")
        for long in (LONGEST + "1", "-" + LONGEST, LONGEST_RATIO + "1", "1/" + "3" * 299):
            refused(self, BadText, lambda: parse_verdict("slide 1 " + long), 2, "number")
            refused(self, BadText, lambda: parse_verdict("slide " + long + " 1"), 1, "number")
            refused(self, BadText, lambda: parse_verdict("turn 1," + long + " left 1"), 1, "number")
            refused(self, BadText, lambda: parse_verdict("turn " + long + ",1 left 1"), 1, "number")
            refused(self, BadText, lambda: parse_verdict("turn 1,1 left " + long), 3, "number")


if __name__ == "__main__":
    unittest.main()
