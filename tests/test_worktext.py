"""[1.9] (texts of works and stops) and [1.10] (case_text, parse_case)."""

import unittest

from firmstops.errors import BadStop, BadText, BadWork
from firmstops.works import Work
from firmstops.worktext import case_text, parse_case, parse_stops, parse_work, stops_text, work_text

from helpers import BOX, EIGHT, SKEW, TRIANGLE
from helpers import is_new_tuple, ratio, row, some_stops, some_works, stops, work

NO_NUMBERS = (
    "", "-", "-0", "+3", "03", "00", "2/4", "3/1", "0/1", "0/5", "-0/5", "1/0", "1/", "/2", "/", "1/-2", "1/+2", "1/02",
    "--1", "1//2", "1/2/3", "x", "1.5", "1_0", "0x1", "1e3", "\t1", "1\t", "\u0661", "\u00b2", "\uff11", "1/\u0662",
    "-1/1", "4/2", "None", "1\n",
)
LONGEST = "1" * 300
LONGEST_RATIO = "-" + "1" * 149 + "/1" + "0" * 148


def refused(test, error, ask, first, what):
    with test.assertRaises(error) as caught:
        ask()
    told = caught.exception
    test.assertEqual((told.word if error is BadText else told.index, told.what), (first, what))


class Works(unittest.TestCase):

    def test_texts(self):
        for text in (TRIANGLE, BOX, SKEW, EIGHT, "-1/2,1/3 5/7,-2 9/4,11/5 1/6,3"):
            self.assertEqual(work_text(work(text)), text)
            self.assertEqual(parse_work(text), work(text))
        self.assertIsInstance(parse_work(TRIANGLE), Work)

    def test_what_is_read_has_the_text(self):
        for told in some_works():
            self.assertEqual(parse_work(work_text(told)), told)

    def test_size(self):
        for word in ("", "1", "1,2,3", ",,", "none", "1;2", "0:1/2"):
            refused(self, BadText, lambda: parse_work("0,0 " + word + " 0,1"), 1, "size")
        refused(self, BadText, lambda: parse_work(""), 0, "size")
        refused(self, BadText, lambda: parse_work("0,0  1,0 0,1"), 1, "size")
        refused(self, BadText, lambda: parse_work(" 0,0 1,0 0,1"), 0, "size")
        refused(self, BadText, lambda: parse_work("0,0 1,0 0,1 "), 3, "size")

    def test_number(self):
        for part in NO_NUMBERS:
            refused(self, BadText, lambda: parse_work("0,0 1,0 0," + part), 2, "number")
            refused(self, BadText, lambda: parse_work("0,0 " + part + ",0 0,1"), 1, "number")

    def test_word_by_word(self):
        refused(self, BadText, lambda: parse_work("0,0 1,x 2"), 1, "number")
        refused(self, BadText, lambda: parse_work("0,0 1 x,2"), 1, "size")
        refused(self, BadText, lambda: parse_work("0,0 x,1,x"), 1, "size")

    def test_texts_come_before_the_work(self):
        refused(self, BadText, lambda: parse_work("0,0 1,0 2,0 x,x"), 3, "number")
        refused(self, BadText, lambda: parse_work("0,0 1"), 1, "size")

    def test_then_the_work_is_made(self):
        refused(self, BadWork, lambda: parse_work("0,0 1,0"), 0, "many")
        refused(self, BadWork, lambda: parse_work("0,0"), 0, "many")
        refused(self, BadWork, lambda: parse_work(" ".join(["0,0"] * 9)), 0, "many")
        refused(self, BadWork, lambda: parse_work("0,0 4,0 4,2 0,2 0,1"), 4, "turn")
        refused(self, BadWork, lambda: parse_work(TRIANGLE + " " + TRIANGLE), 0, "round")

    def test_three_hundred_signs(self):
        self.assertEqual(len(LONGEST_RATIO), 300)
        for long in (LONGEST, "-" + LONGEST[1:], LONGEST_RATIO, "1/" + "3" * 298):
            self.assertEqual(len(long), 300)
            told = parse_work("-9,0 0,-9 " + ("9" + "0" * 299) + ",0 " + long + "," + "9" * 300)
            self.assertEqual(told.corners[3], (ratio(long), ratio("9" * 300)))
            self.assertEqual(work_text(told).split(" ")[3], long + "," + "9" * 300)
        for long in (LONGEST + "1", "-" + LONGEST, LONGEST_RATIO + "1", "1/" + "3" * 299):
            self.assertEqual(len(long), 301)
            refused(self, BadText, lambda: parse_work("0,0 " + long + ",0 0,1"), 1, "number")

    def test_longer_ones_are_written(self):
        great = 10 ** 400
        self.assertEqual(work_text(Work([row(0, 0), row(great, 0), row(0, great)])),
                         "0,0 1" + "0" * 400 + ",0 0,1" + "0" * 400)


class Stops(unittest.TestCase):

    def test_texts(self):
        told = work(TRIANGLE)
        for text in ("0:1/4", "0:1/4 1:3/5 2:2/3", "2:1/2 2:1/2 0:99/100"):
            self.assertEqual(stops_text(told, stops(text)), text)
            self.assertEqual(parse_stops(told, text), stops(text))
            is_new_tuple(self, parse_stops(told, text))
        self.assertEqual(stops_text(told, [[0, (1, 2)]]), "0:1/2")

    def test_no_stops(self):
        self.assertEqual(stops_text(work(BOX), ()), "none")
        self.assertEqual(stops_text(work(BOX), []), "none")
        self.assertEqual(parse_stops(work(BOX), "none"), ())

    def test_what_is_read_has_the_text(self):
        for told in some_works():
            some = some_stops(told, 3, 8)
            self.assertEqual(parse_stops(told, stops_text(told, some)), some)

    def test_stops_text_refuses(self):
        told = work(TRIANGLE)
        refused(self, BadStop, lambda: stops_text(told, None), 0, "many")
        refused(self, BadStop, lambda: stops_text(told, [(0, (1, 2)), (0, (2, 2))]), 1, "spot")
        refused(self, BadStop, lambda: stops_text(told, [(True, (1, 2))]), 0, "side")

    def test_size(self):
        for word in ("", "0", "0:1/2:1/2", "::", "none", "0,1/2", "0;1"):
            refused(self, BadText, lambda: parse_stops(work(BOX), "0:1/2 " + word), 1, "size")
        for text in ("", "0", "None", "none ", " none", "none none", " 0:1/2"):
            refused(self, BadText, lambda: parse_stops(work(BOX), text), 0, "size")
        refused(self, BadText, lambda: parse_stops(work(BOX), "0:1/2 "), 1, "size")
        refused(self, BadText, lambda: parse_stops(work(BOX), "0:1/2  1:1/2"), 1, "size")

    def test_number(self):
        for part in NO_NUMBERS + ("1/2", "-3/2"):
            refused(self, BadText, lambda: parse_stops(work(BOX), "0:1/2 " + part + ":1/2"), 1, "number")
        for part in NO_NUMBERS:
            refused(self, BadText, lambda: parse_stops(work(BOX), "0:1/2 1:1/2 2:" + part), 2, "number")

    def test_word_by_word(self):
        refused(self, BadText, lambda: parse_stops(work(BOX), "0:x 1"), 0, "number")
        refused(self, BadText, lambda: parse_stops(work(BOX), "0 1:x"), 0, "size")

    def test_texts_come_before_the_stops(self):
        refused(self, BadText, lambda: parse_stops(work(BOX), "9:1/2 1:x"), 1, "number")
        refused(self, BadText, lambda: parse_stops(work(BOX), "0:7 1"), 1, "size")

    def test_then_the_stops_are_checked(self):
        refused(self, BadStop, lambda: parse_stops(work(BOX), "0:1/2 4:1/2"), 1, "side")
        refused(self, BadStop, lambda: parse_stops(work(BOX), "-1:1/2"), 0, "side")
        refused(self, BadStop, lambda: parse_stops(work(BOX), "0:1/2 1:1/2 2:1"), 2, "spot")
        refused(self, BadStop, lambda: parse_stops(work(BOX), "0:0"), 0, "spot")
        refused(self, BadStop, lambda: parse_stops(work(BOX), "0:-1/2"), 0, "spot")
        refused(self, BadStop, lambda: parse_stops(work(BOX), " ".join(["0:1/2"] * 9)), 0, "many")
        self.assertEqual(parse_stops(work(BOX), " ".join(["0:1/2"] * 8)), ((0, (1, 2)),) * 8)

    def test_three_hundred_signs(self):
        spot = "1/" + "3" * 298
        self.assertEqual(parse_stops(work(BOX), "0:" + spot), ((0, ratio(spot)),))
        refused(self, BadText, lambda: parse_stops(work(BOX), "0:" + spot + "3"), 0, "number")
        refused(self, BadStop, lambda: parse_stops(work(BOX), LONGEST + ":1/2"), 0, "side")
        refused(self, BadText, lambda: parse_stops(work(BOX), LONGEST + "1:1/2"), 0, "number")


class Cases(unittest.TestCase):

    def test_texts(self):
        self.assertEqual(case_text(work(TRIANGLE), stops("0:1/4 2:2/3")), TRIANGLE + "\n0:1/4 2:2/3")
        self.assertEqual(case_text(work(TRIANGLE), []), TRIANGLE + "\nnone")
        found = parse_case(TRIANGLE + "\n0:1/4 2:2/3")
        self.assertIsInstance(found, tuple)
        self.assertEqual(found, (work(TRIANGLE), stops("0:1/4 2:2/3")))
        self.assertEqual(parse_case(BOX + "\nnone"), (work(BOX), ()))

    def test_what_is_read_has_the_text(self):
        for told in some_works():
            some = some_stops(told, 4, 5)
            self.assertEqual(parse_case(case_text(told, some)), (told, some))

    def test_case_text_refuses(self):
        refused(self, BadStop, lambda: case_text(work(BOX), [(4, (1, 2))]), 0, "side")

    def test_rows(self):
        for text in ("", TRIANGLE, TRIANGLE + " 0:1/2", TRIANGLE + "\nnone\n", "\n\n", "\n" + TRIANGLE + "\nnone"):
            refused(self, BadText, lambda: parse_case(text), 0, "rows")

    def test_first_the_work_then_the_stops(self):
        refused(self, BadText, lambda: parse_case("0,0 1,x 0,1\n0:x"), 1, "number")
        refused(self, BadText, lambda: parse_case("\n"), 0, "size")
        refused(self, BadWork, lambda: parse_case("0,0 1,0\n0:x"), 0, "many")
        refused(self, BadText, lambda: parse_case(TRIANGLE + "\n0:1/2 1:x"), 1, "number")
        refused(self, BadText, lambda: parse_case(TRIANGLE + "\n"), 0, "size")
        refused(self, BadStop, lambda: parse_case(TRIANGLE + "\n0:1/2 3:1/2"), 1, "side")
        refused(self, BadText, lambda: parse_case(TRIANGLE + "\r\nnone"), 2, "number")


if __name__ == "__main__":
    unittest.main()
