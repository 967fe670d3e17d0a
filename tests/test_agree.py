"""[0.3] over the whole program: for drawn works and stops the main promises agree with one another."""

import random
import unittest
from fractions import Fraction
from itertools import combinations, product as choices

from firmstops.allspots import Ends, LooseEnds, all_bear, all_firm, all_held, loose_choices
from firmstops.areas import Area, Unbounded
from firmstops.bench import Bench
from firmstops.centres import centres_of
from firmstops.clasps import clasps_of, widest_swing
from firmstops.cones import edge_motions
from firmstops.errors import NoMeeting, NoSeats, WornOut
from firmstops.firm import Firm, firm_lack, firm_or_free, is_firm
from firmstops.four import can_be_firm, firm_fours, four_for
from firmstops.freely import firming_spots, free_slides, in_shape, keeping_spots
from firmstops.held import Held, Slide, Turn, held_or_loose, is_held
from firmstops.leastlots import has_aim, least_lots, lost_lot, most_lost, spare_stops
from firmstops.linear import rank_of
from firmstops.motions import slide_motion, velocity_at
from firmstops.onespot import holding_spots
from firmstops.pairpushes import PairFirm, pair_verdict
from firmstops.pairs import Pair
from firmstops.posts import can_come
from firmstops.pulls import bear_pull, is_borne
from firmstops.pushes import rows_of
from firmstops.seats import check_seats
from firmstops.setting import fewest_behind, settings
from firmstops.sliding import SlidIn, slid_or_stuck, slide_ins
from firmstops.somespots import Placed, some_bear, some_firm
from firmstops.stiemke import Balance, balance_of, free_direction
from firmstops.stops import begun_stops, mirrored_stops, stop_places
from firmstops.stretches import end_rows, end_stops
from firmstops.three import feet_on, fewest_held, holding_areas, three_for
from firmstops.turns import past_own, placed_work, slide_steps, turn_steps, turned_work
from firmstops.wishes import holds_wish
from firmstops.works import Work
from firmstops.worn import pressed_stops, wear_limit, worn_work

from helpers import around_stops, beside, is_balance, product, rank, ratio, row, some_stops, some_stretches
from helpers import value, values

PULLS = (row("0 0 0"), row("0 -1 -2"), row("1 2 -1"), row("0 0 1"), row("0 0 -1"), row("-3 1 1/2"))
SHIFTS = ((0, 0), (Fraction(1, 10 ** 6), 0), (0, Fraction(-1, 10 ** 6)), (Fraction(-1, 99), Fraction(1, 77)))


def drawn_work(chance):
    """A work whose corners are drawn from a round line and then led elsewhere."""
    while True:
        found = set()
        for _ in range(chance.randrange(3, 9)):
            t = Fraction(chance.randrange(-30, 31), chance.randrange(1, 13))
            found.add(((1 - t * t) / (1 + t * t), 2 * t / (1 + t * t)))
        if len(found) > 2:
            break
    # Below the middle from left to right, above it from right to left: the corners turn left.
    corners = sorted(one for one in found if one[1] <= 0) + sorted((one for one in found if one[1] > 0), reverse=True)
    a, b, c = chance.randrange(1, 4), chance.randrange(-2, 3), chance.randrange(1, 4)
    return Work([row(a * x + b * y + 5, c * y - 3) for x, y in corners])


def drawn_stops(told, chance):
    """Stops of a work: by chance, or on the feet of places within, so that several are held by bend."""
    kind = chance.randrange(4)
    if kind == 0:
        return some_stops(told, chance.randrange(10 ** 6), chance.randrange(0, 7))
    weights = [chance.randrange(1, 9) for _ in told.corners]
    total = sum(weights)
    place = row(*[sum((by * value(corner[k]) for by, corner in zip(weights, told.corners)), Fraction(0)) / total
                  for k in (0, 1)])
    feet = list(feet_on(told, place))
    if kind > 1:
        feet += some_stops(told, chance.randrange(10 ** 6), kind - 1)
    chance.shuffle(feet)
    return tuple(feet[:7])


def cases(seed, many):
    chance = random.Random(seed)
    for _ in range(many):
        told = drawn_work(chance)
        yield told, drawn_stops(told, chance)


class FirmOrHeld(unittest.TestCase):

    def test_firm(self):
        counts = {}
        for told, some in cases(1, 140):
            lines = rows_of(told, some)
            firm = is_firm(told, some)
            counts[firm] = counts.get(firm, 0) + 1
            balanced = bool(some) and isinstance(balance_of(lines), Balance) and rank_of(lines) == 3
            self.assertEqual(firm, balanced)
            self.assertEqual(firm, bool(some) and free_direction(lines) is None)
            self.assertEqual(firm, isinstance(firm_or_free(told, some), Firm))
            self.assertEqual(firm, firm_lack(told, some) is None)
            self.assertEqual(firm, edge_motions(told, some) == ())
            self.assertEqual(firm, has_aim(told, some, "firm"))
            self.assertEqual(firm, holds_wish(told, some, ("firm",)))
            self.assertEqual(firm, least_lots(told, some, "firm") != ())
            self.assertEqual(firm, most_lost(told, some, "firm") is not None)
            self.assertEqual(firm, lost_lot(told, some, 0) is None)
            self.assertEqual(firm, Bench(told, some).trial())
        self.assertGreater(min(counts.values()), 10)

    def test_held(self):
        counts = {}
        for told, some in cases(2, 140):
            found = held_or_loose(told, some)
            firm, held = is_firm(told, some), is_held(told, some)
            kind = found.how if isinstance(found, Held) else found.__class__
            counts[kind] = counts.get(kind, 0) + 1
            self.assertEqual(held, isinstance(found, Held))
            self.assertTrue(held or not firm)
            if held:
                self.assertEqual(found.how == "firm", firm)
            slides = free_slides(told, some)
            left, right = centres_of(told, some, "left"), centres_of(told, some, "right")
            self.assertEqual(held, slides is None and not isinstance(left, Area) and not isinstance(right, Area))
            self.assertEqual(slides is not None, isinstance(left, Unbounded))
            self.assertEqual(isinstance(found, Slide), slides is not None)
            twists = [value(clasp.twist) for clasp in clasps_of(told, some)]
            self.assertEqual(held, slides is None and min(twists) <= 0 <= max(twists))
            self.assertEqual(firm, slides is None and min(twists) < 0 < max(twists))
            self.assertEqual(held, has_aim(told, some, "held"))
            self.assertNotEqual(held, holds_wish(told, some, ("loose",)))
            self.assertEqual(held, least_lots(told, some, "held") != ())
            self.assertEqual(held, Bench(told, some).holds(["held"]))
            if slides is None:
                for way, extent in (("left", left), ("right", right)):
                    self.assertEqual(isinstance(extent, Area), value(widest_swing(told, some, way)) > 0)
        self.assertGreater(min(counts.get(kind, 0) for kind in ("firm", "bend", Slide, Turn)), 5)

    def test_real_motions(self):
        # A held work comes past a stop however it is placed elsewhere; a loose one does not, up to where it is told.
        for told, some in cases(3, 60):
            found = held_or_loose(told, some)
            if isinstance(found, Held):
                for way, swing, shift in choices(("left", "right"), ("0", "1/1000000", "1/9"), SHIFTS):
                    if swing != "0" or any(shift):
                        placed = placed_work(told, way, ratio(swing), row(*shift))
                        self.assertNotEqual(past_own(told, some, placed), ())
            elif isinstance(found, Slide):
                for placed in slide_steps(told, found.direction, 3):
                    self.assertEqual(past_own(told, some, placed), ())
            else:
                self.assertGreater(value(found.most), 0)
                for placed in turn_steps(told, found.centre, found.way, found.most, 4):
                    self.assertEqual(past_own(told, some, placed), ())
                further = ratio(value(found.most) * Fraction(1001, 1000))
                self.assertNotEqual(past_own(told, some, turned_work(told, found.centre, found.way, further)), ())

    def test_a_further_stop_never_ends_an_aim(self):
        for told, some in cases(4, 40):
            more = some + some_stops(told, len(some), 1)
            for aim in ("firm", "held"):
                self.assertLessEqual(has_aim(told, some, aim), has_aim(told, more, aim))
                for at in range(len(some)):
                    left = some[:at] + some[at + 1:]
                    self.assertEqual(at in spare_stops(told, some, aim), has_aim(told, left, aim))

    def test_seen_otherwise(self):
        for told, some in cases(5, 40):
            aims = [has_aim(told, some, aim) for aim in ("firm", "held")]
            others = [(told.shifted(row("7 -1/3")), some), (told.turned(), some), (told.grown(ratio("5/2")), some),
                      (told.mirrored(), mirrored_stops(told, some)), (told.begun_at(2), begun_stops(told, some, 2))]
            for other, others_stops in others:
                self.assertEqual([has_aim(other, others_stops, aim) for aim in ("firm", "held")], aims)
                self.assertEqual(fewest_held(other), fewest_held(told))
                self.assertEqual(fewest_behind(other, others_stops), fewest_behind(told, some))

    def test_rods(self):
        pressed = 0
        for told, some in cases(6, 50):
            limit, shares = wear_limit(told, some)
            for by in (Fraction(1, 3), Fraction(-9, 10)):
                worn = worn_work(told, [ratio(value(share) * by) for share in shares])
                there = pressed_stops(told, some, worn)
                pressed += worn != told
                self.assertGreater(value(limit), 0)
                self.assertEqual(is_firm(worn, there), is_firm(told, some))
                self.assertEqual(is_held(worn, there), is_held(told, some))
                self.assertEqual(free_slides(worn, there), free_slides(told, some))
            try:
                wide = worn_work(told, (ratio(-1),) * len(told))
                there = pressed_stops(told, some, wide)
            except (NoMeeting, WornOut):
                continue
            self.assertEqual([is_firm(wide, there), is_held(wide, there)], [is_firm(told, some), is_held(told, some)])
        self.assertGreater(pressed, 60)


class Spots(unittest.TestCase):

    def test_all_spots(self):
        counts, chance = {}, random.Random(7)
        for told, some in cases(8, 70):
            some = some[:5]
            if some:
                around = around_stops(some, chance.choice((Fraction(1, 10), Fraction(1, 1000), Fraction(0))))
                ends = [end_stops(told, around, choice) for choice in choices((0, 1), repeat=len(around))]
                firm, held = all_firm(told, around), all_held(told, around)
                self.assertEqual(firm is None, all(is_firm(told, one) for one in ends))
                self.assertEqual(held is None, all(is_held(told, one) for one in ends))
                self.assertEqual(firm is None, list(loose_choices(told, around)) == [])
                self.assertIsInstance(firm, (Ends, type(None)))
                self.assertIsInstance(held, (LooseEnds, type(None)))
                counts[firm is None, held is None] = counts.get((firm is None, held is None), 0) + 1
                for _ in range(5):
                    within = [(side, ratio(value(low) + (value(high) - value(low)) * chance.randrange(5) / 4))
                              for side, low, high in around]
                    self.assertGreaterEqual(is_firm(told, within), firm is None)
                    self.assertGreaterEqual(is_held(told, within), held is None)
                for pull in PULLS[1:4]:
                    self.assertEqual(all_bear(told, around, pull) is None,
                                     all(is_borne(told, one, pull) for one in ends))
        self.assertEqual(set(counts), {(True, True), (False, True), (False, False)})

    def test_some_spots(self):
        counts, chance = {}, random.Random(9)
        for at in range(50):
            told = drawn_work(chance)
            wide = some_stretches(told, 700 + at, chance.randrange(4, 6), closed=False, wide=True)
            lines = end_rows(told, wide)
            found = some_firm(told, wide)
            self.assertEqual(isinstance(found, Placed), isinstance(balance_of(lines), Balance) and rank(lines) == 3)
            counts[found.__class__] = counts.get(found.__class__, 0) + 1
            if isinstance(found, Placed):
                self.assertTrue(is_firm(told, found.stops))
                self.assertTrue(is_balance(rows_of(told, found.stops), found.amounts))
                for (side, low, high), stop in zip(wide, found.stops):
                    self.assertTrue(side == stop[0] and value(low) < value(stop[1]) < value(high))
            else:
                self.assertTrue(all(product(line, found.motion) >= 0 for line in lines))
        self.assertEqual(len(counts), 2)
        self.assertGreater(min(counts.values()), 8)

    def test_some_pulls(self):
        for at, (told, some) in enumerate(cases(10, 25)):
            if some:
                around = around_stops(some[:5], Fraction(1, 3))
                pull = PULLS[at % len(PULLS)]
                found = some_bear(told, around, pull)
                ends = [is_borne(told, end_stops(told, around, choice), pull)
                        for choice in choices((0, 1), repeat=len(around))]
                self.assertGreaterEqual(isinstance(found, Placed), any(ends))
                if isinstance(found, Placed):
                    self.assertTrue(is_borne(told, found.stops, pull))

    def test_one_further_spot(self):
        seen = set()
        for told, some in cases(11, 50):
            for side in range(len(told)):
                for ask, aim in ((firming_spots, is_firm), (holding_spots, is_held)):
                    found = ask(told, some, side)
                    seen.add((aim, found is None))
                    for spot in (Fraction(1, 50), Fraction(1, 3), Fraction(4, 5)):
                        inside = found is not None and value(found[0]) <= spot <= value(found[1])
                        if found is None or spot not in values(found):
                            self.assertEqual(aim(told, some + ((side, ratio(spot)),)), inside)
            for at, (side, spot) in enumerate(some):
                found = keeping_spots(told, some, at)
                inside = found is not None and value(found[0]) < value(spot) < value(found[1])
                self.assertEqual(is_firm(told, some), inside)
        self.assertEqual(len(seen), 4)


class Enough(unittest.TestCase):

    def test_four(self):
        chance = random.Random(12)
        for _ in range(25):
            told = drawn_work(chance)
            four = four_for(told)
            self.assertTrue(is_firm(told, four))
            sides = tuple(side for side, _ in four)
            self.assertEqual(sides, next(firm_fours(told)))
            self.assertTrue(can_be_firm(told, sides))
            self.assertIsInstance(held_or_loose(told, four), Held)
            self.assertEqual(least_lots(told, four, "firm"), ((0, 1, 2, 3),))
            self.assertEqual(spare_stops(told, four, "firm"), ())

    def test_three(self):
        counts, chance = {}, random.Random(13)
        for _ in range(60):
            told = drawn_work(chance)
            three, areas = three_for(told), list(holding_areas(told))
            counts[three is None] = counts.get(three is None, 0) + 1
            self.assertEqual(three is None, areas == [])
            self.assertEqual(fewest_held(told), 4 if three is None else 3)
            if three is not None:
                self.assertEqual(held_or_loose(told, three.stops).how, "bend")
                self.assertFalse(is_firm(told, three.stops))
            for sides in combinations(range(len(told)), 3):
                spots = some_stops(told, chance.randrange(10 ** 6), 3)
                some = [(side, spot) for side, (_, spot) in zip(sides, spots)]
                # Three stops by chance hold a work only where their normal lines meet in one place.
                if is_held(told, some):
                    self.assertIn(sides, [one for one, _ in areas])
                self.assertFalse(is_firm(told, some))
        self.assertGreater(min(counts.values()), 4)

    def test_seats(self):
        for told, some in cases(14, 40):
            for three in list(combinations(some, 3))[:6]:
                try:
                    check_seats(told, three)
                    self.assertEqual(rank(rows_of(told, three)), 3)
                except NoSeats:
                    self.assertLess(rank(rows_of(told, three)), 3)
                self.assertFalse(is_firm(told, three))


class SlidesAndPulls(unittest.TestCase):

    def test_slides_in(self):
        counts = {}
        for told, some in cases(15, 60):
            found, shape = slid_or_stuck(told, some), slide_ins(told, some)
            lets = isinstance(found, SlidIn)
            counts[lets] = counts.get(lets, 0) + 1
            self.assertEqual(lets, shape is not None)
            # What can be slid in can be slid out again the same way.
            self.assertEqual(lets, free_slides(told, some) is not None)
            self.assertEqual(lets, settings(told, some) == (tuple(range(len(some))),))
            self.assertEqual(lets, fewest_behind(told, some) == 0)
            self.assertFalse(lets and is_held(told, some))
            for way in (row("1 0"), row("-2 1"), row("0 -1"), row("3 5")) + ((found.direction,) if lets else ()):
                opposite = row(-value(way[0]), -value(way[1]))
                comes = in_shape(shape, way)
                self.assertEqual(comes, in_shape(free_slides(told, some), opposite))
                self.assertEqual(comes, can_come(told, stop_places(told, some), way))
                self.assertEqual(comes, holds_wish(told, some, ("slid in", way)))
                self.assertEqual(velocity_at(slide_motion(way), told.middle), way)
        self.assertGreater(min(counts.values()), 10)

    def test_pulls(self):
        counts = {}
        for told, some in cases(16, 50):
            firm, edges = is_firm(told, some), edge_motions(told, some)
            for pull in PULLS:
                borne = is_borne(told, some, pull)
                counts[borne] = counts.get(borne, 0) + 1
                self.assertEqual(borne, all(product(pull, edge) <= 0 for edge in edges))
                self.assertEqual(borne, hasattr(bear_pull(told, some, pull), "amounts"))
                self.assertEqual(borne, holds_wish(told, some, ("bears", pull)))
                self.assertTrue(borne or not firm)
            spread = (row("1 0 0"), row("0 1 0"), row("0 0 1"), row("-1 -1 -1"))
            self.assertEqual(firm, all(is_borne(told, some, pull) for pull in spread))
        self.assertGreater(min(counts.values()), 40)

    def test_pairs(self):
        counts, chance = {}, random.Random(17)
        for _ in range(30):
            told = drawn_work(chance)
            other = beside(told, chance.randrange(len(told)), Fraction(1, 5), Fraction(3, 4), "four")
            pair = Pair(told, other)
            some = [drawn_stops(one, chance)[:6] for one in (told, other)]
            firm = isinstance(pair_verdict(pair, *some), PairFirm)
            counts[firm] = counts.get(firm, 0) + 1
            if firm:
                glued = rows_of(told, some[0]) + rows_of(other, some[1])
                self.assertTrue(isinstance(balance_of(glued), Balance) and rank(glued) == 3)
            if is_firm(told, some[0]) and is_firm(other, some[1]):
                self.assertTrue(firm)
        self.assertEqual(set(counts), {True, False})


if __name__ == "__main__":
    unittest.main()
