"""[9.8], [9.9]: shares of slips, how far places are off within slacks, and the best seats."""

import random
import unittest
from fractions import Fraction
from itertools import combinations, product as choices

from firmstops.errors import BadDirection, BadPlace, BadSlacks, NoSeats
from firmstops.motions import velocity_at
from firmstops.pushes import rows_of
from firmstops.seats import seats_shift
from firmstops.slack import BestSeats, Reach, WorkReach
from firmstops.slack import best_seats, reach_corners, slip_shares, spot_reach, work_reach

from helpers import BOX, EIGHT, NO_COUPLES, NO_DIRECTIONS, NO_RATIOS, NO_SEQUENCES, SQUARE, TRIANGLE, Alike
from helpers import couples, is_new_tuple, is_result, product, rank, ratio, refused, refuses_stops, row
from helpers import some_stops, some_works, stops, value, values, work

GREAT = 10 ** 280 + 3
SEATS = "0:1/4 0:1/2 3:1/2"
LOW = ("0:1/4 0:1/2 0:3/4", "0:1/2 0:1/2 3:1/2", "0:1/2 1:1/2 2:1/2", "0:1/2 1:1/2 3:1/2")
PLACES = couples("0,0 4,2 2,1 -3,7/2 1,1")
WAYS = couples("1,0 0,1 -1,0 0,-1 2,-3 -1/3,5")


def cases():
    """Works with seats, slacks, places and directions."""
    chance = random.Random(570)
    for at, told in enumerate(some_works()):
        found = 0
        for seed in range(60):
            some = some_stops(told, 600 + 70 * at + seed, 3)
            if found < 5 and rank(rows_of(told, some)) == 3:
                found += 1
                slacks = row(*[Fraction(chance.choice((0, 1, 1, 2, GREAT)), chance.randrange(1, 4)) for _ in range(3)])
                place = chance.choice(told.corners + (told.middle, row("5 -2"), (ratio(GREAT), ratio("1/7"))))
                yield told, some, slacks, place, chance.choice(WAYS)
    yield work(BOX), stops(SEATS), row("1 1 1"), row("0 0"), row("1 0")
    yield work(BOX), stops(SEATS), row("0 0 0"), row("0 0"), row("1 0")
    yield work(SQUARE), stops("0:1/3 1:1/3 2:1/3"), row("1 0 1/2"), row("1/2 1/2"), row("1 1")


def shares_by_hand(told, some, place):
    """The shares of seats at a place, from the motions of one slip each."""
    return [velocity_at(seats_shift(told, some, row(*[int(at == k) for k in range(3)])), place) for at in range(3)]


def shifts_by_hand(shares, slacks, parts=(-1, 1)):
    """Couples (slips, shift), in Fractions, for the slips that are these parts of the slacks."""
    found = []
    for chosen in choices(parts, repeat=3):
        slips = [part * value(slack) for part, slack in zip(chosen, slacks)]
        found.append((slips, tuple(sum(slip * value(share[k]) for slip, share in zip(slips, shares)) for k in (0, 1))))
    return found


def hull(places):
    """The corners of the hull of places in Fractions, turning left, the least one first."""
    some = sorted(set(places))
    if len(some) < 3:
        return some
    halves = []
    for line in (some, some[::-1]):
        found = []
        for place in line:
            while len(found) > 1 and turn_at(found[-2], found[-1], place) <= 0:
                found.pop()
            found.append(place)
        halves += found[:-1]
    return halves


def turn_at(one, other, third):
    return (other[0] - one[0]) * (third[1] - other[1]) - (other[1] - one[1]) * (third[0] - other[0])


def checks_slacks(test, ask, many):
    """Ask that slacks of so many stops are checked."""
    wrong = [(thing, 0, "many") for thing in NO_SEQUENCES]
    wrong += [((ratio(0),) * more, 0, "many") for more in (many - 1, many + 1) if more >= 0]
    wrong += [([None] * (many + 1), 0, "many"), ({at: ratio(1) for at in range(many)}, 0, "many")]
    if many > 0:
        for thing in NO_RATIOS + (Alike(), (-1, 1), (-1, GREAT)):
            wrong.append(((ratio(0),) * (many - 1) + (thing,), many - 1, "slack"))
            wrong.append(([thing] + [None] * (many - 1), 0, "slack"))
    for slacks, index, what in wrong:
        refused(test, BadSlacks, lambda: ask(slacks), index, what)


class Shares(unittest.TestCase):

    def test_by_hand(self):
        told = work(BOX)
        self.assertEqual(slip_shares(told, stops(SEATS), row("0 0")), couples("-1/4,1/2 1/4,-1/4 1/2,0"))
        self.assertEqual(slip_shares(told, stops(SEATS), list(row("1 1"))), couples("0,1/4 0,0 1/2,0"))
        self.assertEqual(slip_shares(told, [list(one) for one in stops(SEATS)], row("2 1")),
                         couples("0,0 0,1/4 1/2,0"))

    def test_all(self):
        for told, some, _, place, _ in cases():
            found = slip_shares(told, some, place)
            is_new_tuple(self, found)
            self.assertEqual(found, tuple(shares_by_hand(told, some, place)))
            slips = row("3 -1/2 1/7")
            shift = velocity_at(seats_shift(told, some, slips), place)
            self.assertEqual(values(shift), tuple(
                sum(value(slip) * value(share[k]) for slip, share in zip(slips, found)) for k in (0, 1)))

    def test_refuses(self):
        triangle, box = work(TRIANGLE), work(BOX)
        refuses_stops(self, lambda some: slip_shares(triangle, some, None))
        for thing in NO_COUPLES:
            for some in ((), stops(LOW[0]), stops(SEATS)):
                refused(self, BadPlace, lambda: slip_shares(box, some, thing))
        for text in LOW:
            refused(self, NoSeats, lambda: slip_shares(box, stops(text), row("0 0")), "rank")
        for some in ((), stops(SEATS)[:2], stops(SEATS) * 2):
            refused(self, NoSeats, lambda: slip_shares(box, some, row("0 0")), "many")


class SpotReach(unittest.TestCase):

    def test_by_hand(self):
        told = work(BOX)
        self.assertEqual(spot_reach(told, stops(SEATS), row("1 1 1"), row("0 0"), row("1 0")),
                         Reach(ratio(1), (-1, 1, 1)))
        self.assertEqual(spot_reach(told, stops(SEATS), list(row("1 2 3")), row("0 0"), list(row("0 -2"))),
                         Reach(ratio(2), (-1, 1, 0)))
        # The signs do not hang on the slacks.
        self.assertEqual(spot_reach(told, stops(SEATS), row("0 0 0"), row("0 0"), row("1 0")),
                         Reach(ratio(0), (-1, 1, 1)))
        self.assertEqual(spot_reach(told, stops(SEATS), row("5 0 1/2"), row("1 1"), row("-1 0")),
                         Reach(ratio("1/4"), (0, 0, -1)))

    def test_all(self):
        for told, some, slacks, place, way in cases():
            found = spot_reach(told, some, slacks, place, way)
            self.assertIsInstance(found, Reach)
            is_new_tuple(self, (found.greatest, found.signs))
            shares = shares_by_hand(told, some, place)
            self.assertEqual(found.signs, tuple((product(share, way) > 0) - (product(share, way) < 0)
                                                for share in shares))
            reaches = [(slips, x * value(way[0]) + y * value(way[1]))
                       for slips, (x, y) in shifts_by_hand(shares, slacks, (-1, Fraction(-1, 2), 0, Fraction(1, 3), 1))]
            self.assertEqual(value(found.greatest), max(reach for _, reach in reaches))
            met = row(*[sign * value(slack) for sign, slack in zip(found.signs, slacks)])
            self.assertEqual(product(velocity_at(seats_shift(told, some, met), place), way), value(found.greatest))

    def test_signs_differ(self):
        found = {spot_reach(told, some, slacks, place, way).signs for told, some, slacks, place, way in cases()}
        self.assertGreater(len(found), 8)

    def test_refuses(self):
        triangle, box = work(TRIANGLE), work(BOX)
        refuses_stops(self, lambda some: spot_reach(triangle, some, None, None, None))
        for thing in NO_COUPLES:
            refused(self, BadPlace, lambda: spot_reach(box, (), None, thing, None))
        for thing in NO_DIRECTIONS:
            refused(self, BadDirection, lambda: spot_reach(box, stops(LOW[0]), None, row("0 0"), thing))
        for text in LOW:
            refused(self, NoSeats, lambda: spot_reach(box, stops(text), None, row("0 0"), row("1 0")), "rank")
        for some in ((), stops(SEATS)[:2], stops(SEATS) * 2):
            refused(self, NoSeats, lambda: spot_reach(box, some, None, row("0 0"), row("1 0")), "many")
        checks_slacks(self, lambda slacks: spot_reach(box, stops(SEATS), slacks, row("0 0"), row("1 0")), 3)


class OfTheWork(unittest.TestCase):

    def test_by_hand(self):
        told = work(BOX)
        # Up: the shares of the corners are 1/2 - x/4, x/4 - 1/4 and 0, so they are greatest on the right.
        self.assertEqual(work_reach(told, stops(SEATS), row("1 1 1"), row("0 1")), WorkReach(ratio("5/4"), 1))
        # To the right: y/4 - 1/4, 1/4 - y/4 and 1/2 are as great below as above.
        self.assertEqual(work_reach(told, stops(SEATS), row("1 1 1"), row("1 0")), WorkReach(ratio(1), 0))
        self.assertEqual(work_reach(told, stops(SEATS), row("0 0 1"), row("-1 0")), WorkReach(ratio("1/2"), 0))
        self.assertEqual(work_reach(told, stops(SEATS), row("0 0 0"), row("3 1")), WorkReach(ratio(0), 0))
        self.assertEqual(work_reach(told, [list(one) for one in stops(SEATS)], list(row("4 0 0")), list(row("1 1"))),
                         WorkReach(ratio(3), 1))

    def test_all(self):
        corners = set()
        for told, some, slacks, _, way in cases():
            found = work_reach(told, some, slacks, way)
            self.assertIsInstance(found, WorkReach)
            is_new_tuple(self, (found.greatest, found.corner))
            reaches = [spot_reach(told, some, slacks, corner, way).greatest for corner in told.corners]
            self.assertEqual(value(found.greatest), max(values(reaches)))
            self.assertEqual(found.corner, values(reaches).index(value(found.greatest)))
            corners.add(found.corner)
            for side in range(len(told)):
                for place in (told.middle, told.place_at(side, ratio("1/3"))):
                    there = spot_reach(told, some, slacks, place, way).greatest
                    self.assertLessEqual(value(there), value(found.greatest))
        self.assertGreater(len(corners), 3)

    def test_refuses(self):
        triangle, box = work(TRIANGLE), work(BOX)
        refuses_stops(self, lambda some: work_reach(triangle, some, None, None))
        for thing in NO_DIRECTIONS:
            refused(self, BadDirection, lambda: work_reach(box, stops(LOW[0]), None, thing))
        for text in LOW:
            refused(self, NoSeats, lambda: work_reach(box, stops(text), None, row("1 0")), "rank")
        for some in ((), stops(SEATS)[:2], stops(SEATS) * 2):
            refused(self, NoSeats, lambda: work_reach(box, some, None, row("1 0")), "many")
        checks_slacks(self, lambda slacks: work_reach(box, stops(SEATS), slacks, row("1 0")), 3)


class ReachCorners(unittest.TestCase):

    def test_by_hand(self):
        told = work(BOX)
        self.assertEqual(reach_corners(told, stops(SEATS), row("0 0 0"), row("0 0")), couples("0,0"))
        self.assertEqual(reach_corners(told, stops(SEATS), row("0 0 1"), row("0 0")), couples("-1/2,0 1/2,0"))
        self.assertEqual(reach_corners(told, stops(SEATS), row("4 0 0"), list(row("0 0"))), couples("-1,2 1,-2"))
        self.assertEqual(reach_corners(told, stops(SEATS), row("4 0 0"), row("1 1")), couples("0,-1 0,1"))
        # The share of seat 1 at (1, 1) is 0.
        self.assertEqual(reach_corners(told, stops(SEATS), row("0 9 0"), row("1 1")), couples("0,0"))
        self.assertEqual(reach_corners(told, stops(SEATS), row("4 9 2"), row("1 1")), couples("-1,-1 1,-1 1,1 -1,1"))
        self.assertEqual(reach_corners(told, stops(SEATS), list(row("0 4 2")), row("0 0")),
                         couples("-2,1 0,-1 2,-1 0,1"))
        self.assertEqual(reach_corners(told, [list(one) for one in stops(SEATS)], row("4 4 2"), row("0 0")),
                         couples("-3,3 -1,-1 1,-3 3,-3 1,1 -1,3"))

    def test_three_along_two_lines(self):
        # At (4, 1) the shares are (0, -1/2), (0, 3/4) and (1/2, 0): two of them lie on one line.
        told = work(BOX)
        self.assertEqual(slip_shares(told, stops(SEATS), row("4 1")), couples("0,-1/2 0,3/4 1/2,0"))
        self.assertEqual(reach_corners(told, stops(SEATS), row("2 4 2"), row("4 1")), couples("-1,-4 1,-4 1,4 -1,4"))
        self.assertEqual(reach_corners(told, stops(SEATS), row("2 4 0"), row("4 1")), couples("0,-4 0,4"))

    def test_all(self):
        counts = {}
        for told, some, slacks, place, _ in cases():
            for let in (slacks, row("1 1/2 3"), row("0 2 5"), row("0 0 1"), row("0 0 0")):
                found = reach_corners(told, some, let, place)
                is_new_tuple(self, found)
                shifts = shifts_by_hand(shares_by_hand(told, some, place), let)
                self.assertEqual([values(corner) for corner in found], hull([shift for _, shift in shifts]))
                self.assertEqual({row(-value(x), -value(y)) for x, y in found}, set(found))
                counts[len(found)] = counts.get(len(found), 0) + 1
        self.assertEqual(set(counts), {1, 2, 4, 6})

    def test_with_the_reach(self):
        for told, some, slacks, place, _ in list(cases())[::3]:
            corners = reach_corners(told, some, slacks, place)
            for way in WAYS:
                found = spot_reach(told, some, slacks, place, way).greatest
                self.assertEqual(value(found), max(product(corner, way) for corner in corners))

    def test_refuses(self):
        triangle, box = work(TRIANGLE), work(BOX)
        refuses_stops(self, lambda some: reach_corners(triangle, some, None, None))
        for thing in NO_COUPLES:
            refused(self, BadPlace, lambda: reach_corners(box, stops(LOW[0]), None, thing))
        for text in LOW:
            refused(self, NoSeats, lambda: reach_corners(box, stops(text), None, row("1 0")), "rank")
        for some in ((), stops(SEATS)[:2], stops(SEATS) * 2):
            refused(self, NoSeats, lambda: reach_corners(box, some, None, row("1 0")), "many")
        checks_slacks(self, lambda slacks: reach_corners(box, stops(SEATS), slacks, row("1 0")), 3)


class Best(unittest.TestCase):

    def test_by_hand(self):
        told, some = work(BOX), stops("0:1/4 0:1/2 3:1/2 0:3/4")
        # At (3, 0) and upwards the seats at 1 and 3 let as far as the slip of 3 alone goes.
        self.assertEqual(best_seats(told, some, row("1 1 1 1"), row("3 0"), row("0 1")),
                         BestSeats((0, 2, 3), ratio("1/4")))
        self.assertEqual(best_seats(told, some, row("1 1 1 8"), row("3 0"), row("0 1")),
                         BestSeats((0, 1, 2), ratio("3/4")))
        self.assertEqual(best_seats(told, list(some), list(row("9 0 1 0")), list(row("5/2 0")), list(row("0 1"))),
                         BestSeats((1, 2, 3), ratio(0)))
        # To the right at half height all three reach alike far, so the first ones are told.
        self.assertEqual(best_seats(told, some, row("1 1 1 1"), row("3 1"), row("1 0")),
                         BestSeats((0, 1, 2), ratio("1/2")))

    def test_none(self):
        told = work(BOX)
        for text in ("", "0:1/2", "0:1/2 1:1/2") + LOW + ("0:1/4 0:1/2 0:3/4 2:1/2 2:1/4", " ".join(["1:1/2"] * 8)):
            some = stops(text)
            found = best_seats(told, some, row(*[1] * len(some)), row("0 0"), row("1 0"))
            self.assertIsNone(found, text)

    def test_all(self):
        chance, counts = random.Random(575), {}
        for at, told in enumerate(some_works()):
            for many in (2, 3, 4, 5) + ((8,) if at % 3 == 0 else ()):
                some = some_stops(told, 900 + 10 * at + many, many)
                slacks = row(*[Fraction(chance.randrange(0, 4), chance.randrange(1, 3)) for _ in some])
                place, way = chance.choice(told.corners + PLACES), chance.choice(WAYS)
                best = None
                for numbers in combinations(range(many), 3):
                    three = [some[number] for number in numbers]
                    if rank(rows_of(told, three)) == 3:
                        reach = spot_reach(told, three, [slacks[number] for number in numbers], place, way).greatest
                        if best is None or value(reach) < value(best[1]):
                            best = (numbers, reach)
                found = best_seats(told, some, slacks, place, way)
                counts[best is None] = counts.get(best is None, 0) + 1
                if best is None:
                    self.assertIsNone(found)
                else:
                    is_new_tuple(self, (found.numbers, found.greatest))
                    self.assertEqual(found, BestSeats(*best))
        self.assertGreater(min(counts.values()), 5)

    def test_great_numbers(self):
        told = work(EIGHT).grown(ratio(GREAT))
        some = tuple((side, (1, GREAT + 2)) for side in range(8))
        found = best_seats(told, some, row(*[GREAT] * 8), row("0 0"), row(GREAT, 1))
        three = [some[number] for number in found.numbers]
        self.assertEqual(spot_reach(told, three, row(*[GREAT] * 3), row("0 0"), row(GREAT, 1)).greatest,
                         found.greatest)

    def test_refuses(self):
        triangle, box = work(TRIANGLE), work(BOX)
        refuses_stops(self, lambda some: best_seats(triangle, some, None, None, None))
        for thing in NO_COUPLES:
            refused(self, BadPlace, lambda: best_seats(box, stops(SEATS), None, thing, None))
        for thing in NO_DIRECTIONS:
            refused(self, BadDirection, lambda: best_seats(box, stops(SEATS), None, row("0 0"), thing))
        for some in ((), stops("0:1/2"), stops(LOW[0]), stops(SEATS), stops(SEATS) * 2):
            checks_slacks(self, lambda slacks: best_seats(box, some, slacks, row("0 0"), row("1 0")), len(some))


class Results(unittest.TestCase):

    def test_classes(self):
        is_result(self, Reach, {"greatest": ratio(1), "signs": (1, 0, -1)}, (None, [], (0, 1)))
        is_result(self, WorkReach, {"greatest": ratio(1), "corner": 2}, (None, [], (0, 1)))
        is_result(self, BestSeats, {"numbers": (0, 1, 2), "greatest": ratio(1)}, (None, [], (0, 1)))
        self.assertFalse(Reach(ratio(1), (0, 1, 2)) == BestSeats((0, 1, 2), ratio(1)))
        self.assertFalse(WorkReach(1, 2) == Reach(1, 2))
        self.assertFalse(BestSeats(1, 2) == WorkReach(1, 2))


if __name__ == "__main__":
    unittest.main()
