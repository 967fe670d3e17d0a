"""[0.6] over the whole program: what is passed in stays and is not kept, what is returned is tuples; equal objects."""

import importlib
import inspect
import unittest
from copy import deepcopy

from firmstops.allspots import Ends
from firmstops.areas import Area
from firmstops.bench import Bench
from firmstops.bounds import least_multiple
from firmstops.clasps import Clasp, clasps_of
from firmstops.firm import Firm, Free
from firmstops.held import Held, Slide, held_or_loose
from firmstops.least import least_cost
from firmstops.mends import Mend, least_mends
from firmstops.pairpushes import PairFirm, PairPushes
from firmstops.pairs import Pair
from firmstops.pulls import Pushes
from firmstops.sliding import Stuck
from firmstops.somespots import Placed, some_firm
from firmstops.stiemke import Amounts, Balance
from firmstops.three import three_for
from firmstops.works import Work

from helpers import BOX, couples, ratio, row, rows, stops, stretches, work
from test_interface import CLASSES, LISTED, signatures

FIRM = "0:1/4 0:3/4 2:1/2 1:1/2 3:1/2"
AROUND = "0:1/4:1/3 0:2/3:3/4 2:1/2:1/2 1:1/2:1/2 3:1/2:1/2"
BELOW = stops("0:1/4 0:3/4 2:1/2")
NO_SLIDES = stops("0:1/2 1:3/5 2:2/3")


def is_a_ratio(thing):
    return isinstance(thing, tuple) and len(thing) == 2 and isinstance(thing[0], int) and isinstance(thing[1], int)


def listed(thing):
    """A thing with lists in the place of all tuples but ratios."""
    if is_a_ratio(thing) or not isinstance(thing, (list, tuple)):
        return thing
    return [listed(one) for one in thing]


def pair():
    return Pair(work(BOX), work("1,2 3,2 2,4"))


FIVE = (stops("0:1/4 1:3/4 3:3/4"), stops("1:1/2 2:1/2"))

# What is passed for a parameter, unless the table below it tells something else.
USUAL = {
    "work": work(BOX), "stops": stops(FIRM), "candidates": stops(FIRM), "stop": stops("0:1/2")[0],
    "stretches": stretches(AROUND), "stretch": stretches(AROUND)[0], "motion": row("1 -1 1"), "pull": row("0 -1 -2"),
    "further": row("0 0 -1"), "place": row("1 1"), "direction": row("0 -1"), "way": "left", "centre": row("2 1"),
    "swing": ratio("1/3"), "by": row("3 -4"), "size": ratio(2), "rows": rows("1 0", "0 1", "-1 -1", "1 1"),
    "side": 0, "corner": 1, "number": 1, "spot": ratio("1/3"), "many": 3, "aim": "firm", "sides": (0, 1, 2),
    "bounds": row("1 2 3 4 5"), "far": ratio(2), "posts": couples("0,0 5,1 2,2"), "post": row("5 1"),
    "slides": couples("0,1 3,0"), "lot": (0, 1), "seats": stops("0:1/4 0:1/2 3:1/2"), "slips": row("1 2 3"),
    "slacks": row("1 2 3"), "pair": pair(), "stops_one": FIVE[0], "stops_other": FIVE[1], "pull_one": row("0 0 0"),
    "pull_other": row("0 -1 -2"), "change": ("put", (0, (1, 2))), "wish": ("bears", row("0 -1 -2")),
    "changes": (("put", (0, (1, 2))), ("corner", 2, row("5 3"))), "halves": rows("1 0 0", "0 1 0", "-1 -1 -3"),
    "wishes": (("held",), ("slid in", row("0 -1"))), "pool": (("put", (1, (1, 2))), ("put", (3, (1, 2)))),
    "choice": (0, 1, 0, 0, 1), "shares": row("1/9 0 0 -1/7"), "step": ratio("1/99"), "most": 3, "thing": row("1 1"),
    "pulls": (row("0 -1 -2"), row("0 0 1")), "places": couples("0,0 9,9"), "normals": couples("1,0 0,1"),
    "shape": ("wedge", row("1 0"), row("0 1")), "extent": Area(couples("0,0 4,0 0,3")), "one": ratio("1/2"),
    "other": ratio("-1/3"), "ratios": row("1 -2/3 4"), "amounts": row("1 0 2 1"), "target": row("1 2"),
    "costs": row("1 1 1 1"), "products": row("1 2 -3 3"), "placed": work(BOX), "top": 4, "bottom": -6,
    "verdict": Slide(row("1 2")), "lost": 1, "velocity": row("1 0"), "low": 1, "high": None,
}

# What else is passed in some modules or functions.
ELSE = {
    "places": {"one": row("1 2"), "other": row("3 -1"), "by": ratio(2)},
    "linear": {"row": row("1 2")}, "linear.product_of": {"direction": row("3 1/2"), "row": row("1 2")},
    "linearjudges.balance_fault": {"result": Balance(row("1 1 2 1"))},
    "linearjudges.bear_fault": {"result": Amounts(row("1 2 0 0"))},
    "linearjudges.least_fault": {"result": least_cost(rows("1 0", "0 1", "-1 -1", "1 1"), row("1 2"), row("1 1 1 1"))},
    "edges": {"rows": rows("1 0", "0 1", "1 1")},
    "motions": {"one": row("1 2 3"), "other": row("0 1 0")},
    "motions.motion_from": {"other": row("1 3"), "velocity": row("1 0"), "further": row("2 0"), "place": row("1 1")},
    "motions.scaled_motion": {"by": ratio(3)},
    "barring.free_share": {"one": row("0 0 0"), "other": row("0 1 0"), "stops": stops("0:1/2 1:1/2")},
    "worktext.parse_work": {"text": BOX}, "worktext.parse_stops": {"text": "0:1/2 1:1/3"},
    "worktext.parse_case": {"text": BOX + "\n0:1/2"}, "motiontext.parse_motion": {"text": "1 2/3 -4"},
    "verdicttext.parse_verdict": {"text": "turn 5/3,13/9 left 3/13"},
    "stretchtext.parse_stretches": {"text": "0:1/8:1/5"},
    "firm.firm_fault": {"firm": Firm(row("1 1 2 1 1"))}, "firm.free_fault": {"free": Free(row("1 0 0"))},
    "worn.pressed_stops": {"other": work(BOX)},
    "freely.cone_shape": {"normals": couples("1,0 0,1")}, "freely.keeping_spots": {"number": 0},
    "freely.free_edges": {"stops": stops("0:1/4 0:1/2 3:1/2")},
    "centres": {"stops": NO_SLIDES, "work": work("0,0 4,0 0,3"), "way": "right"},
    "turns": {"stops": NO_SLIDES, "work": work("0,0 4,0 0,3")}, "turns.past_own": {"placed": work("1,0 4,0 0,3")},
    "clasps.clasp_fault": {"clasp": next(clasps_of(work(BOX), stops(FIRM)))},
    "held.held_fault": {"held": held_or_loose(work(BOX), stops(FIRM))},
    "held.loose_fault": {"loose": Slide(row("0 1")), "stops": stops("0:1/2")},
    "stretches.check_wide": {"stretches": stretches("0:0:1 1:0:1 2:0:1 3:0:1")},
    "somespots.some_firm": {"stretches": stretches("0:0:1 1:0:1 2:0:1 3:0:1")},
    "spotjudges.all_firm_fault": {"result": Ends((0, 1, 0, 0, 1), row("1 0 0"))},
    "spotjudges.all_bear_fault": {"result": Ends((0, 1, 0, 0, 1), row("1 0 0"))},
    "spotjudges.some_firm_fault": {
        "stretches": stretches("0:0:1 1:0:1 2:0:1 3:0:1"),
        "result": some_firm(work(BOX), stretches("0:0:1 1:0:1 2:0:1 3:0:1"))},
    "spotjudges.some_bear_fault": {"result": Placed(stops(FIRM), row("1/8 1/8 0 0 0"))},
    "onespot.holding_spots": {"stops": BELOW},
    "pulls.bear_pull_fault": {"result": Pushes(row("1/8 1/8 0 0 0"))},
    "bounds.strain_fault": {
        "result": least_multiple(work(BOX), stops(FIRM), row("0 -1 -2"), row("1 2 3 4 5"))},
    "three": {"work": work("0,0 4,0 0,3"), "three": three_for(work("0,0 4,0 0,3"))},
    "four.can_be_firm": {"sides": (0, 1, 2, 3)},
    "four.four_fault": {"stops": stops("0:1/4 0:3/4 1:1/2 2:1/2")},
    "sliding.slid_fault": {"result": Stuck((0, 2, 3), row("1 1 1"))},
    "seats": {"others": stops("0:1/8 1:1/2 2:1/3")}, "slack.best_seats": {"slacks": row("1 2 3 4 5")},
    "pairpushes.touch_place": {"amounts": row("1 2 3")},
    "pairpushes.pair_fault": {"told": PairFirm(row("1 2 2 2 2 1/2 1/2"))},
    "pairpushes.pair_pull_fault": {"told": PairPushes(row("1 2 2 2 2 1/2 1/2"))},
    "mends": {"stops": BELOW, "wishes": (("firm",), ("bears", row("0 -1 -2")))},
    "mends.mends_fault": {"mends": least_mends(work(BOX), BELOW, USUAL["pool"], (("firm",),))},
}


def given(module, name, parameter):
    """What is passed for a parameter of a function, with lists for its sequences."""
    told = {**USUAL, **ELSE.get(module, {}), **ELSE.get(module + "." + name, {})}[parameter]
    if parameter in ("result", "firm", "free", "held", "loose", "clasp", "three", "told", "extent"):
        told = deepcopy(told)
        for attribute, thing in vars(told).items():
            setattr(told, attribute, listed(thing))
        return told
    return listed(told)


def described(thing):
    """All that a thing tells, down to the kinds of its parts."""
    if isinstance(thing, (list, tuple)):
        return (thing.__class__, [described(one) for one in thing])
    if thing is None or isinstance(thing, (int, str)):
        return (thing.__class__, thing)
    return (thing.__class__, [(name, described(part)) for name, part in vars(thing).items()])


def spoiled(thing):
    """Change all lists in a thing."""
    if isinstance(thing, list):
        for one in thing:
            spoiled(one)
        thing.clear()
        thing.append(None)


def has_lists(told):
    """Whether a description tells of a list."""
    kind, parts = told
    if kind is list:
        return True
    if not isinstance(parts, list):
        return False
    return any(has_lists(part if isinstance(part[0], type) else part[1]) for part in parts)


def calls():
    """For each function of the interface its name, the function, and a maker of arguments."""
    for module in LISTED:
        for name, _ in signatures(LISTED[module]):
            function = getattr(importlib.import_module("firmstops." + module), name)
            parameters = list(inspect.signature(function).parameters.values())

            def make(module=module, name=name, parameters=parameters):
                by_place = [given(module, name, one.name) for one in parameters if one.kind != one.KEYWORD_ONLY]
                by_name = {one.name: given(module, name, one.name) for one in parameters
                           if one.kind == one.KEYWORD_ONLY}
                return by_place, by_name
            yield module + "." + name, function, make


def result_of(function, arguments):
    """What a call returns, or the tuple of what it yields."""
    found = function(*arguments[0], **arguments[1])
    return tuple(found) if inspect.isgenerator(found) else found


class Kept(unittest.TestCase):

    def test_what_is_passed_in_stays(self):
        for name, function, make in calls():
            with self.subTest(name):
                arguments = make()
                before = described([*arguments[0], *arguments[1].values()])
                result_of(function, arguments)
                self.assertEqual(described([*arguments[0], *arguments[1].values()]), before)

    def test_what_is_returned_is_tuples_and_not_changed_behind(self):
        for name, function, make in calls():
            with self.subTest(name):
                arguments = make()
                found = result_of(function, arguments)
                before = described(found)
                self.assertFalse(has_lists(before))
                spoiled([*arguments[0], *arguments[1].values()])
                self.assertEqual(described(found), before)
                self.assertEqual(described(result_of(function, make())), before)

    def test_judged_right_with_lists(self):
        judges = [(name, function, make) for name, function, make in calls() if name.endswith("_fault")]
        self.assertEqual(len(judges), 20)
        right = {name for name, function, make in judges if result_of(function, make()) is None}
        self.assertTrue({"pairpushes.pair_fault", "mends.mends_fault", "three.three_fault", "bounds.strain_fault",
                         "clasps.clasp_fault", "held.held_fault", "linearjudges.least_fault", "pulls.bear_pull_fault",
                         "spotjudges.some_firm_fault", "held.loose_fault"} <= right, right)

    def test_works_pairs_and_benches(self):
        corners, some = listed(couples(BOX)), listed(stops(FIRM))
        told, bench = Work(corners), Bench(work(BOX), some)
        before = described(told), described(bench.stops)
        self.assertEqual((corners, some), (listed(couples(BOX)), listed(stops(FIRM))))
        spoiled(corners)
        spoiled(some)
        self.assertEqual((described(told), described(bench.stops)), before)
        self.assertFalse(has_lists(before[0]))
        by = listed(row("1 2"))
        shifted = [told.shifted(by), pair().shifted(by)]
        before = described(shifted[0]), described(shifted[1])
        self.assertEqual(by, listed(row("1 2")))
        spoiled(by)
        self.assertEqual((described(shifted[0]), described(shifted[1])), before)

    def test_results_keep_the_very_things(self):
        for module, classes in CLASSES.items():
            for name, attributes in classes.items():
                if name not in ("Work", "Pair"):
                    things = [[name, at] for at in range(len(attributes))]
                    told = getattr(importlib.import_module("firmstops." + module), name)(*things)
                    for attribute, thing in zip(attributes, things):
                        self.assertIs(getattr(told, attribute), thing)


class Equal(unittest.TestCase):

    def objects(self):
        """For each class an object made of things that are the same for all classes of as many attributes."""
        things = (row("1 1 1"), row("2 1"), ratio(3), (4,))
        found = [(Work, work(BOX)), (Pair, pair()), (Bench, Bench(work(BOX)))]
        for module, classes in CLASSES.items():
            for name, attributes in classes.items():
                told = getattr(importlib.import_module("firmstops." + module), name)
                if name not in ("Work", "Pair"):
                    found.append((told, told(*things[:len(attributes)])))
        return found

    def test_objects_of_one_class(self):
        for (told, one), (_, other) in zip(self.objects(), self.objects()):
            if told is not Bench:
                self.assertTrue(one == other, told)
                self.assertFalse(one != other, told)

    def test_objects_of_two_classes(self):
        found = self.objects()
        for told, one in found:
            for told_other, other in found:
                if told is not told_other:
                    self.assertFalse(one == other, (told, told_other))
                    self.assertTrue(one != other, (told, told_other))

    def test_one_other_attribute(self):
        for module, classes in CLASSES.items():
            for name, attributes in classes.items():
                if name in ("Work", "Pair"):
                    continue
                told = getattr(importlib.import_module("firmstops." + module), name)
                things = [row("1 1 1"), row("2 1"), ratio(3), (4,)][:len(attributes)]
                for at in range(len(attributes)):
                    for other in (None, list(things[at]), (things[at],), things[at][:-1]):
                        self.assertFalse(told(*things) == told(*things[:at], other, *things[at + 1:]), name)

    def test_pairs_are_no_results(self):
        told = pair()
        for one in (told.one, told.other):
            self.assertFalse(told == one)
            self.assertFalse(one == told)
        self.assertFalse(told == Mend(told.sides, told.one, told.other))
        self.assertFalse(Held("firm", 1, 2) == Clasp("firm", 1, 2, 3))


if __name__ == "__main__":
    unittest.main()
