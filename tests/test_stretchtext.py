"""[1.9]: texts of stretches."""

import unittest
from fractions import Fraction

from firmstops.errors import BadStretch, BadText
from firmstops.stretchtext import parse_stretches, stretches_text

from helpers import BOX, TRIANGLE
from helpers import is_new_tuple, ratio, refused, refuses_stretches, some_stretches, some_works, stretches, work

from test_worktext import LONGEST, NO_NUMBERS


class Texts(unittest.TestCase):

    def test_texts(self):
        told = work(TRIANGLE)
        for text in ("0:0:1", "0:1/4:1/4", "2:0:1/100 1:99/100:1 0:1/3:1/2", "0:0:1 0:0:1 0:0:1 0:0:1 0:0:1 0:0:1"):
            self.assertEqual(stretches_text(told, stretches(text)), text)
            self.assertEqual(stretches_text(told, [list(one) for one in stretches(text)]), text)
            self.assertEqual(parse_stretches(told, text), stretches(text))
            is_new_tuple(self, parse_stretches(told, text))

    def test_what_is_read_has_the_text(self):
        for told in some_works():
            some = some_stretches(told, 360, 6, False)
            self.assertEqual(parse_stretches(told, stretches_text(told, some)), some)

    def test_stretches_text_refuses(self):
        refuses_stretches(self, lambda some: stretches_text(work(TRIANGLE), some))

    def test_longer_ones_are_written(self):
        great = 10 ** 400
        told = ((0, ratio(Fraction(1, great)), ratio(1)),)
        self.assertEqual(stretches_text(work(BOX), told), f"0:1/{great}:1")

    def test_size(self):
        told = work(BOX)
        for word in ("", "0", "0:1/2", "0:0:1/2:1", ":::", "none", "0,0,1", "0;0:1", "0:0;1"):
            refused(self, BadText, lambda: parse_stretches(told, "0:0:1 " + word), 1, "size")
            refused(self, BadText, lambda: parse_stretches(told, word + " 0:0:1"), 0, "size")
        for text in ("", "none", " 0:0:1"):
            refused(self, BadText, lambda: parse_stretches(told, text), 0, "size")
        refused(self, BadText, lambda: parse_stretches(told, "0:0:1 "), 1, "size")
        refused(self, BadText, lambda: parse_stretches(told, "0:0:1  1:0:1"), 1, "size")

    def test_number(self):
        told = work(BOX)
        for part in NO_NUMBERS:
            refused(self, BadText, lambda: parse_stretches(told, "0:0:1 " + part + ":0:1"), 1, "number")
            refused(self, BadText, lambda: parse_stretches(told, "0:" + part + ":1"), 0, "number")
            refused(self, BadText, lambda: parse_stretches(told, "0:0:1 0:0:1 1:0:" + part), 2, "number")
        for part in ("1/2", "-3/2"):
            refused(self, BadText, lambda: parse_stretches(told, part + ":0:1"), 0, "number")

    def test_word_by_word(self):
        told = work(BOX)
        refused(self, BadText, lambda: parse_stretches(told, "0:x:1 1"), 0, "number")
        refused(self, BadText, lambda: parse_stretches(told, "0:1 1:x:1"), 0, "size")
        refused(self, BadText, lambda: parse_stretches(told, "x:0:1:2"), 0, "size")

    def test_then_the_stretches_are_checked(self):
        told = work(BOX)
        refused(self, BadText, lambda: parse_stretches(told, "9:0:1 1:0:x"), 1, "number")
        refused(self, BadStretch, lambda: parse_stretches(told, "0:0:1 4:0:1"), 1, "side")
        refused(self, BadStretch, lambda: parse_stretches(told, "-1:0:1"), 0, "side")
        refused(self, BadStretch, lambda: parse_stretches(told, "0:-1/2:1"), 0, "low")
        refused(self, BadStretch, lambda: parse_stretches(told, "0:0:1 1:1:1"), 1, "low")
        refused(self, BadStretch, lambda: parse_stretches(told, "0:1/2:1/3"), 0, "high")
        refused(self, BadStretch, lambda: parse_stretches(told, " ".join(["0:0:1"] * 7)), 0, "many")

    def test_three_hundred_signs(self):
        told = work(BOX)
        low = "1/" + "3" * 298
        self.assertEqual(len(low), 300)
        self.assertEqual(parse_stretches(told, "0:" + low + ":1"), ((0, ratio(low), ratio(1)),))
        self.assertEqual(parse_stretches(told, "0:0:" + low), ((0, ratio(0), ratio(low)),))
        refused(self, BadText, lambda: parse_stretches(told, "0:" + low + "3:1"), 0, "number")
        refused(self, BadText, lambda: parse_stretches(told, "0:0:" + low + "3"), 0, "number")
        refused(self, BadStretch, lambda: parse_stretches(told, LONGEST + ":0:1"), 0, "side")
        refused(self, BadText, lambda: parse_stretches(told, LONGEST + "1:0:1"), 0, "number")


if __name__ == "__main__":
    unittest.main()
