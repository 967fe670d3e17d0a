"""The interface: each name stands in the file under which it is listed, with its parameters in order."""

import importlib
import inspect
import re
import unittest

LISTED = {
    "ratios": """is_whole(thing, low=None, high=None) is_ratio(thing) make_ratio(top, bottom=1) plus(one, other)
        minus(one, other) times(one, other) over(one, other) negative(one) compare(one, other) sign_of(one)
        sum_of(ratios) least_of(ratios) greatest_of(ratios) ratio_text(one)""",
    "places": """is_couple(thing) check_place(place) place_plus(one, other) place_minus(one, other)
        place_scaled(one, by) quarter_left(one) mean_place(places) dot_of(one, other) cross_of(one, other)
        compare_places(one, other)""",
    "stops": """check_stop(work, stop) check_stops(work, stops) mirrored_stops(work, stops)
        begun_stops(work, stops, corner) stop_places(work, stops) stop_at(work, place)""",
    "worktext": """work_text(work) stops_text(work, stops) case_text(work, stops) parse_work(text)
        parse_stops(work, text) parse_case(text)""",
    "linear": """check_rows(rows) product_of(row, direction) weighted_sum(rows, amounts) plain_of(ratios)
        rank_of(rows) kernel_of(rows) relations_of(rows) solve_products(rows, products)""",
    "least": "least_cost(rows, target, costs)",
    "stiemke": """balance_of(rows) free_direction(rows) bear_target(rows, target) lean_amounts(rows, amounts)
        all_lean(rows, target)""",
    "edges": "edges_of(rows)",
    "linearjudges": """balance_fault(rows, result) bear_fault(rows, target, result)
        least_fault(rows, target, costs, result)""",
    "motions": """check_motion(motion) check_moving(motion) check_direction(direction) check_way(way) is_rest(motion)
        is_slide(motion) centre_of(motion) turn_motion(centre, way) slide_motion(direction) plain_motion(motion)
        plain_direction(direction) velocity_at(motion, place) motions_sum(one, other) scaled_motion(motion, by)
        opposite_motion(motion) motion_from(place, velocity, other, further) shifted_motion(motion, by)
        turned_motion(motion) mirrored_motion(motion) grown_motion(motion, size)""",
    "pushes": """row_of(work, stop) rows_of(work, stops) row_on(work, side, spot) row_at(place, direction)
        check_pull(pull)""",
    "barring": """rate_at(work, stop, motion) stop_sign(work, stop, motion) rates_of(work, stops, motion)
        first_bar(work, stops, motion) barring_stops(work, stops, motion) grazed_stops(work, stops, motion)
        left_stops(work, stops, motion) is_free(work, stops, motion) free_share(work, stops, one, other)""",
    "motiontext": "motion_text(motion) parse_motion(text)",
    "freely": """cone_shape(normals) in_shape(shape, direction) free_slides(work, stops) free_edges(work, stops)
        firming_spots(work, stops, side) keeping_spots(work, stops, number)""",
    "firm": """is_firm(work, stops) firm_or_free(work, stops) firm_fault(work, stops, firm) free_fault(work, stops, free)
        firm_lack(work, stops) meet_of(work, stops)""",
    "worn": """worn_work(work, shares) rod_of(work, stop) pressed_stops(work, stops, other)
        wear_limit(work, stops)""",
    "areas": "common_extent(halves) work_halves(work) extent_sign(extent, place) middle_of(extent)",
    "centres": """centre_half(work, stop, way, swing) centres_at(work, stops, way, swing) centres_of(work, stops, way)
        about_place(work, stops, place, way) check_swing(swing)""",
    "clasps": "clasps_of(work, stops) clasp_fault(work, stops, clasp) widest_swing(work, stops, way)",
    "turns": """greatest_turn(work, stops, centre, way) met_stops(work, stops, centre, way)
        turned_place(place, centre, way, swing) turned_work(work, centre, way, swing)
        placed_work(work, way, swing, by) past_own(work, stops, placed) is_clear(placed, places)
        turn_steps(work, centre, way, swing, many) slide_steps(work, direction, many)""",
    "held": """held_or_loose(work, stops) is_held(work, stops) held_fault(work, stops, held)
        loose_fault(work, stops, loose)""",
    "verdicttext": "verdict_text(verdict) parse_verdict(text)",
    "stretches": """check_stretches(work, stretches) check_closed(work, stretches) check_wide(work, stretches)
        end_stops(work, stretches, choice) end_rows(work, stretches) spots_let(work, stretch, motion)
        motion_fate(work, stretches, motion) choices_of(stretches)""",
    "allspots": """all_firm(work, stretches) all_held(work, stretches) all_bear(work, stretches, pull)
        loose_choices(work, stretches)""",
    "somespots": "some_firm(work, stretches) some_bear(work, stretches, pull)",
    "spotjudges": """all_firm_fault(work, stretches, result) all_bear_fault(work, stretches, pull, result)
        some_firm_fault(work, stretches, result) some_bear_fault(work, stretches, pull, result)""",
    "onespot": "holding_spots(work, stops, side) slack_steps(work, stops, step, most)",
    "stretchtext": "stretches_text(work, stretches) parse_stretches(work, text)",
    "pulls": """pull_at(place, direction) pulls_sum(pulls) shifted_pull(pull, by) turned_pull(pull) mirrored_pull(pull)
        grown_pull(pull, size) bear_pull(work, stops, pull) is_borne(work, stops, pull)
        first_unborne(work, stops, pulls) bear_pull_fault(work, stops, pull, result)""",
    "cones": "edge_motions(work, stops)",
    "spans": """amount_range(work, stops, pull, number) needed_stops(work, stops, pull)
        pull_range(work, stops, pull, further) all_pull_range(work, stretches, pull, further)
        some_pull_range(work, stretches, pull, further)""",
    "bornewhere": """borne_places(work, stops, direction) missed_corner(work, stops, direction)
        borne_directions(work, stops, place) weight_place(work)""",
    "bounds": """walls_of(work, stops, bounds) within_bounds(work, stops, pull, bounds)
        least_multiple(work, stops, pull, bounds) greatest_push(work, stops, pull)
        strain_fault(work, stops, pull, bounds, result)""",
    "leastlots": """check_aim(aim) has_aim(work, stops, aim) least_lots(work, candidates, aim)
        spare_stops(work, stops, aim) lost_lot(work, stops, lost=1, *, aim='firm') most_lost(work, stops, aim)""",
    "three": """feet_on(work, place) holding_area(work, sides) holding_areas(work) three_for(work)
        three_fault(work, three) fewest_held(work)""",
    "four": "can_be_firm(work, sides) firm_fours(work) four_for(work) four_fault(work, stops)",
    "sliding": """slid_from(work, direction, far) slide_ins(work, stops) slid_or_stuck(work, stops)
        slid_fault(work, stops, result)""",
    "posts": """check_posts(work, posts) within_while(work, post, direction) first_met(work, posts, direction)
        barred_arc(work, post) ways_in(work, posts) can_come(work, posts, direction) path_block(work, posts, slides)""",
    "setting": "settings(work, stops) fewest_behind(work, stops) setting_slides(work, stops, lot)",
    "seats": """check_seats(work, seats) seats_shift(work, seats, slips) slips_of(work, seats, motion)
        slips_between(work, seats, others, slips)""",
    "slack": """slip_shares(work, seats, place) spot_reach(work, seats, slacks, place, direction)
        work_reach(work, seats, slacks, direction) reach_corners(work, seats, slacks, place)
        best_seats(work, stops, slacks, place, direction)""",
    "pairs": "check_both(pair, stops_one, stops_other) pair_rows(pair, stops_one, stops_other)",
    "pairpushes": """pair_verdict(pair, stops_one, stops_other)
        pair_bear(pair, stops_one, stops_other, pull_one, pull_other) touch_place(pair, amounts)
        pair_fault(pair, stops_one, stops_other, told)
        pair_pull_fault(pair, stops_one, stops_other, pull_one, pull_other, told)""",
    "changes": """check_form(work, change) apply_change(work, stops, change)
        apply_changes(work, stops, changes)""",
    "wishes": """check_wish(wish) check_wishes(wishes) holds_wish(work, stops, wish)
        holds_all(work, stops, wishes)""",
    "mends": """good_selections(work, stops, pool, wishes) least_mends(work, stops, pool, wishes)
        spoilers(work, stops, pool, wishes) mends_fault(work, stops, pool, wishes, mends)""",
}

CLASSES = {
    "works": {"Work": ("corners",)},
    "least": {"Least": ("value", "amounts", "direction"), "Endless": ("amounts", "way"), "Against": ("direction",)},
    "stiemke": {"Balance": ("amounts",), "Amounts": ("amounts",)},
    "firm": {"Firm": ("amounts",), "Free": ("motion",)},
    "areas": {"Empty": (), "Point": ("place",), "Segment": ("one", "other"), "Area": ("corners",), "Unbounded": ()},
    "clasps": {"Clasp": ("indices", "amounts", "twist", "span")},
    "held": {"Held": ("how", "left", "right"), "Slide": ("direction",), "Turn": ("centre", "way", "most")},
    "allspots": {"Ends": ("choice", "motion"), "LooseEnds": ("choice", "loose")},
    "somespots": {"Placed": ("stops", "amounts"), "NoSpots": ("motion",)},
    "pulls": {"Pushes": ("amounts",), "Pulled": ("motion",)},
    "bounds": {"Overborne": ("motion",), "Strain": ("multiple", "amounts", "motion")},
    "three": {"Three": ("sides", "point", "stops")},
    "sliding": {"SlidIn": ("direction",), "Stuck": ("numbers", "amounts")},
    "slack": {"Reach": ("greatest", "signs"), "WorkReach": ("greatest", "corner"),
              "BestSeats": ("numbers", "greatest")},
    "pairs": {"Pair": ("one", "other")},
    "pairpushes": {"PairFirm": ("amounts",), "PairFree": ("one", "other"), "PairPushes": ("amounts",),
                   "PairPulled": ("one", "other")},
    "mends": {"Mend": ("selection", "work", "stops")},
}

WORK_METHODS = """corner_of(self, side) side_of(self, side) normal_of(self, side) place_at(self, side, spot)
    value_at(self, side, place) is_within(self, place) shifted(self, by) turned(self) mirrored(self) grown(self, size)
    begun_at(self, corner)"""

PAIR_METHODS = "swapped(self) shifted(self, by)"

BENCH_METHODS = """__init__(self, work, stops=()) make(self, change) undo(self) holds(self, *wishes)
    trial(self, *changes, wishes=(('firm',),)) stages(self) __len__(self) __contains__(self, stop)"""

VALUES = {"ratios": ("ZERO", "ONE"), "motions": ("REST",), "pulls": ("NO_PULL",)}

GENERATORS = {
    "stiemke": ("all_lean",), "clasps": ("clasps_of",), "turns": ("turn_steps", "slide_steps"),
    "stretches": ("choices_of",), "allspots": ("loose_choices",), "three": ("holding_areas",),
    "four": ("firm_fours",),
}


def signatures(text):
    """Couples (name, parameters in brackets) of a text of the interface."""
    some = re.sub(r"\) (?=\w)", ")\n", " ".join(text.split())).split("\n")
    return [(one[:one.index("(")], one[one.index("("):]) for one in some]


class Interface(unittest.TestCase):

    def test_functions(self):
        for module, text in LISTED.items():
            told = importlib.import_module("firmstops." + module)
            for name, expected in signatures(text):
                function = getattr(told, name)
                self.assertTrue(inspect.isfunction(function), name)
                self.assertEqual(function.__module__, "firmstops." + module, name)
                self.assertEqual(str(inspect.signature(function)), expected, name)

    def test_classes(self):
        for module, some in CLASSES.items():
            told = importlib.import_module("firmstops." + module)
            for name, expected in some.items():
                self.assertEqual(getattr(told, name).__module__, "firmstops." + module, name)
                parameters = inspect.signature(getattr(told, name)).parameters if expected else ()
                self.assertEqual(tuple(parameters), expected, name)
                self.assertEqual("__init__" in vars(getattr(told, name)), expected != (), name)
                self.assertIn("__eq__", vars(getattr(told, name)), name)

    def test_methods_of_work(self):
        told = vars(importlib.import_module("firmstops.works").Work)
        for name, expected in signatures(WORK_METHODS):
            self.assertTrue(inspect.isfunction(told[name]), name)
            self.assertEqual(str(inspect.signature(told[name])), expected, name)
        self.assertIsInstance(told["middle"], property)
        for name in ("__len__", "__eq__", "__contains__"):
            self.assertIn(name, told)

    def test_methods_of_pair(self):
        told = vars(importlib.import_module("firmstops.pairs").Pair)
        for name, expected in signatures(PAIR_METHODS):
            self.assertTrue(inspect.isfunction(told[name]), name)
            self.assertEqual(str(inspect.signature(told[name])), expected, name)

    def test_bench(self):
        told = vars(importlib.import_module("firmstops.bench").Bench)
        for name, expected in signatures(BENCH_METHODS):
            self.assertTrue(inspect.isfunction(told[name]), name)
            self.assertEqual(str(inspect.signature(told[name])), expected, name)
        self.assertIsInstance(told["made"], property)
        self.assertTrue(inspect.isgeneratorfunction(told["stages"]))

    def test_values(self):
        for module, names in VALUES.items():
            for name in names:
                self.assertIsInstance(getattr(importlib.import_module("firmstops." + module), name), tuple)

    def test_generators(self):
        for module in LISTED:
            told = importlib.import_module("firmstops." + module)
            for name, _ in signatures(LISTED[module]):
                found = inspect.isgeneratorfunction(getattr(told, name))
                self.assertEqual(found, name in GENERATORS.get(module, ()), name)


if __name__ == "__main__":
    unittest.main()
