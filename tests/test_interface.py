"""The interface: each name stands in the file under which it is listed, with its parameters in order."""

import importlib
import inspect
import unittest

LISTED = {
    "ratios": """is_whole(thing, low=None, high=None) is_ratio(thing) make_ratio(top, bottom=1) plus(one, other)
        minus(one, other) times(one, other) over(one, other) negative(one) compare(one, other) sign_of(one)
        sum_of(ratios) least_of(ratios) greatest_of(ratios) ratio_text(one)""",
    "places": """is_couple(thing) check_place(place) place_plus(one, other) place_minus(one, other)
        place_scaled(one, by) quarter_left(one) mean_place(places) dot_of(one, other) cross_of(one, other)
        compare_places(one, other)""",
    "stops": """check_stop(work, stop) check_stops(work, stops) mirrored_stops(work, stops)
        begun_stops(work, stops, corner) stop_places(work, stops) stop_at(work, place)""",
    "worktext": """work_text(work) stops_text(work, stops) case_text(work, stops) parse_work(text)
        parse_stops(work, text) parse_case(text)""",
    "linear": """check_rows(rows) product_of(row, direction) weighted_sum(rows, amounts) plain_of(ratios)
        rank_of(rows) kernel_of(rows) relations_of(rows) solve_products(rows, products)""",
    "least": "least_cost(rows, target, costs)",
}

CLASSES = {
    "works": {"Work": ("corners",)},
    "least": {"Least": ("value", "amounts", "direction"), "Endless": ("amounts", "way"), "Against": ("direction",)},
}

WORK_METHODS = """corner_of(self, side) side_of(self, side) normal_of(self, side) place_at(self, side, spot)
    value_at(self, side, place) is_within(self, place) shifted(self, by) turned(self) mirrored(self) grown(self, size)
    begun_at(self, corner)"""

VALUES = {"ratios": ("ZERO", "ONE")}


def signatures(text):
    """Couples (name, parameters in brackets) of a text of the interface."""
    some = " ".join(text.split()).replace(") ", ")\n").split("\n")
    return [(one[:one.index("(")], one[one.index("("):]) for one in some]


class Interface(unittest.TestCase):

    def test_functions(self):
        for module, text in LISTED.items():
            told = importlib.import_module("firmstops." + module)
            for name, expected in signatures(text):
                function = getattr(told, name)
                self.assertTrue(inspect.isfunction(function), name)
                self.assertEqual(function.__module__, "firmstops." + module, name)
                self.assertEqual(str(inspect.signature(function)), expected, name)

    def test_classes(self):
        for module, some in CLASSES.items():
            told = importlib.import_module("firmstops." + module)
            for name, expected in some.items():
                self.assertEqual(getattr(told, name).__module__, "firmstops." + module, name)
                found = tuple(inspect.signature(getattr(told, name)).parameters)
                self.assertEqual(found, expected, name)
                self.assertIn("__eq__", vars(getattr(told, name)), name)

    def test_methods_of_work(self):
        told = vars(importlib.import_module("firmstops.works").Work)
        for name, expected in signatures(WORK_METHODS):
            self.assertTrue(inspect.isfunction(told[name]), name)
            self.assertEqual(str(inspect.signature(told[name])), expected, name)
        self.assertIsInstance(told["middle"], property)
        for name in ("__len__", "__eq__", "__contains__"):
            self.assertIn(name, told)

    def test_values(self):
        for module, names in VALUES.items():
            for name in names:
                self.assertIsInstance(getattr(importlib.import_module("firmstops." + module), name), tuple)


if __name__ == "__main__":
    unittest.main()
