"""[0.7]: the errors, where they stand and what they tell."""

import unittest

from firmstops import errors

TOLD = {
    "BadRatio": ("what",), "BadPlace": (), "BadWork": ("index", "what"), "NoSide": ("side",), "BadSize": (),
    "BadStop": ("index", "what"), "BadText": ("word", "what"), "BadMotion": (), "BadDirection": (), "BadWay": (),
    "NoCentre": (), "BadPull": (), "BadRows": (), "BadNumbers": ("what",), "LowRank": ("rank",),
    "NoStop": ("number",), "BadShares": ("index",), "WornOut": ("side",), "NoMeeting": ("index",),
    "BadHalves": ("index",), "NoMiddle": (), "BadSwing": (), "BadSteps": (), "BadStretch": ("index", "what"),
    "BadChoice": (), "BadStep": (), "BadMost": ("most",), "BadBounds": ("index", "what"), "BadAim": ("aim",),
    "BadCount": ("count",), "BadSides": ("sides",), "BadFar": (), "BadPosts": ("index", "what"), "BadSlides": (),
    "BadLot": (), "NoSeats": ("what",), "BadSlips": ("index", "what"), "BadSlacks": ("index", "what"),
    "NoTouch": (), "BadChange": ("index", "what"), "BadWish": ("index", "what"), "NothingDone": (),
}


class Errors(unittest.TestCase):

    def test_stop_error_stands_under_value_error(self):
        self.assertEqual(errors.StopError.__bases__, (ValueError,))

    def test_each_error_stands_directly_under_stop_error(self):
        for name in TOLD:
            told = getattr(errors, name)
            self.assertEqual(told.__bases__, (errors.StopError,), name)
            self.assertEqual(told.__name__, name)
            self.assertEqual(told.__module__, "firmstops.errors")

    def test_there_are_no_other_errors(self):
        found = {name for name, thing in vars(errors).items() if isinstance(thing, type)}
        self.assertEqual(found, set(TOLD) | {"StopError"})

    def test_attributes_in_their_order(self):
        for name, attributes in TOLD.items():
            things = [[at, name] for at in range(len(attributes))]
            told = getattr(errors, name)(*things)
            self.assertEqual(sorted(vars(told)), sorted(attributes), name)
            for attribute, thing in zip(attributes, things):
                self.assertIs(getattr(told, attribute), thing, name)

    def test_attributes_by_name(self):
        for name, attributes in TOLD.items():
            told = getattr(errors, name)(**{attribute: attribute for attribute in attributes})
            for attribute in attributes:
                self.assertEqual(getattr(told, attribute), attribute, name)

    def test_other_numbers_of_attributes_are_refused(self):
        for name, attributes in TOLD.items():
            if attributes:
                with self.assertRaises(TypeError):
                    getattr(errors, name)(*range(len(attributes) + 1))
                with self.assertRaises(TypeError):
                    getattr(errors, name)(*range(len(attributes) - 1))

    def test_they_are_raised_and_caught(self):
        for name, attributes in TOLD.items():
            told = getattr(errors, name)
            for above in (told, errors.StopError, ValueError):
                with self.assertRaises(above):
                    raise told(*attributes)


if __name__ == "__main__":
    unittest.main()
