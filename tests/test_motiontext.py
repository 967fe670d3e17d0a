"""[1.9]: texts of motions and pulls."""

import unittest
from fractions import Fraction

from firmstops.errors import BadMotion, BadText
from firmstops.motiontext import motion_text, parse_motion

from helpers import NO_RATIOS, NO_SEQUENCES
from helpers import is_new_tuple, ratio, row

from test_worktext import NO_NUMBERS


class MotionText(unittest.TestCase):

    def refused(self, text, word, what):
        with self.assertRaises(BadText) as caught:
            parse_motion(text)
        self.assertEqual((caught.exception.word, caught.exception.what), (word, what))

    def test_texts(self):
        for text in ("0 0 0", "1 -2/3 5", "-7/2 0 1/100"):
            self.assertEqual(motion_text(row(text)), text)
            self.assertEqual(motion_text(list(row(text))), text)
            self.assertEqual(parse_motion(text), row(text))
            is_new_tuple(self, parse_motion(text))

    def test_great_numbers(self):
        motion = row(10 ** 299, Fraction(-1, 3 ** 300), Fraction(7 ** 150, 5 ** 150))
        self.assertEqual(parse_motion(motion_text(motion)), motion)

    def test_bad_motions(self):
        for thing in NO_SEQUENCES + ((), row("1 2"), row("1 2 3 4"), (1, 2, 3)):
            with self.assertRaises(BadMotion):
                motion_text(thing)
        for thing in NO_RATIOS:
            with self.assertRaises(BadMotion):
                motion_text((ratio(1), thing, ratio(1)))

    def test_size(self):
        for text in ("", "1", "1 2", "1 2 3 4", "1 2 3 ", " 1 2 3", "1  2 3", "1 2 3 x", "x", "x y", "1,2,3"):
            self.refused(text, 0, "size")

    def test_number(self):
        for part in NO_NUMBERS:
            self.refused(part + " 1 2", 0, "number")
            self.refused("1 " + part + " 2", 1, "number")
            self.refused("1 2 " + part, 2, "number")
        self.refused("1 x y", 1, "number")
        self.refused("1 2 ", 2, "number")
        self.refused("  ", 0, "number")

    def test_three_hundred_signs(self):
        self.assertEqual(parse_motion("0 0 " + "7" * 300), row(0, 0, int("7" * 300)))
        self.refused("0 0 " + "7" * 301, 2, "number")


if __name__ == "__main__":
    unittest.main()
