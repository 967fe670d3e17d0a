"""[2.2], [2.3], [2.4], [2.5]: motions, their kinds, velocities, and motions led along."""

import unittest
from fractions import Fraction
from itertools import product as pairs

from firmstops.errors import BadDirection, BadMotion, BadPlace, BadSize, BadWay, NoCentre
from firmstops.motions import REST, centre_of, check_direction, check_motion, check_moving, check_way, grown_motion
from firmstops.motions import is_rest, is_slide, mirrored_motion, motion_from, motions_sum, opposite_motion
from firmstops.motions import plain_direction, plain_motion, scaled_motion, shifted_motion, slide_motion, turn_motion
from firmstops.motions import turned_motion, velocity_at

from helpers import NO_COUPLES, NO_MOTIONS, NO_RATIOS, NO_WAYS
from helpers import couples, is_new_tuple, is_plain, ratio, row, rows, values

GREAT = 10 ** 299 + 7
MOTIONS = rows("0 0 0", "1 0 0", "-1/2 3 0", "0 0 1", "0 0 -2", "1 2 3", "-3/2 5/7 -1/9", "0 4 2") + (
    row(GREAT, Fraction(1, GREAT), -GREAT),)
PLACES = couples("0,0 1,0 0,1 -3/2,7/5 4,-1/3") + (row(GREAT, Fraction(-3, GREAT)),)


class Checks(unittest.TestCase):

    def test_rest(self):
        self.assertEqual(REST, row("0 0 0"))
        is_new_tuple(self, REST)

    def test_motions(self):
        for one in MOTIONS:
            for told in (one, list(one)):
                self.assertEqual(check_motion(told), one)
                self.assertIsInstance(check_motion(told), tuple)

    def test_no_motions(self):
        asks = (
            check_motion, check_moving, is_rest, is_slide, centre_of, plain_motion, opposite_motion, turned_motion,
            mirrored_motion, lambda one: velocity_at(one, None), lambda one: shifted_motion(one, None),
            lambda one: grown_motion(one, None), lambda one: scaled_motion(one, ratio(2)),
            lambda one: motions_sum(one, None), lambda one: motions_sum(REST, one),
        )
        for thing in NO_MOTIONS:
            for ask in asks:
                with self.assertRaises(BadMotion):
                    ask(thing)

    def test_moving(self):
        for one in MOTIONS[1:]:
            self.assertEqual(check_moving(list(one)), one)
            self.assertIsInstance(check_moving(list(one)), tuple)
        for rest in (REST, list(REST)):
            with self.assertRaises(BadMotion):
                check_moving(rest)
            with self.assertRaises(BadMotion):
                plain_motion(rest)

    def test_directions(self):
        for one in couples("1,0 0,-1 -3/2,7") + (row(Fraction(1, GREAT), 0),):
            for told in (one, list(one)):
                self.assertEqual(check_direction(told), one)
                self.assertIsInstance(check_direction(told), tuple)

    def test_no_directions(self):
        for thing in NO_COUPLES + (row("0 0"), list(row("0 0"))):
            for ask in (check_direction, slide_motion, plain_direction):
                with self.assertRaises(BadDirection):
                    ask(thing)

    def test_ways(self):
        self.assertEqual(check_way("left"), "left")
        self.assertEqual(check_way("right"), "right")
        for thing in NO_WAYS:
            with self.assertRaises(BadWay):
                check_way(thing)


class Kinds(unittest.TestCase):

    def test_is_rest(self):
        for one in MOTIONS:
            self.assertIs(is_rest(one), one == REST)
            self.assertIs(is_rest(list(one)), one == REST)

    def test_is_slide(self):
        self.assertEqual([is_slide(one) for one in MOTIONS], [False, True, True] + [False] * 6)
        self.assertIs(is_slide(list(MOTIONS[2])), True)
        self.assertIs(is_slide(row(0, 1, Fraction(1, GREAT))), False)

    def test_centre(self):
        self.assertEqual(centre_of(row("1 2 3")), row("-2/3 1/3"))
        self.assertEqual(centre_of(list(row("0 0 -5"))), row("0 0"))
        for one in MOTIONS:
            if one[2] == ratio(0):
                with self.assertRaises(NoCentre):
                    centre_of(one)
            else:
                is_new_tuple(self, centre_of(one))
                self.assertEqual(velocity_at(one, centre_of(one)), row("0 0"))

    def test_turn_motion(self):
        self.assertEqual(turn_motion(row("2 3"), "left"), row("3 -2 1"))
        self.assertEqual(turn_motion(row("2 3"), "right"), row("-3 2 -1"))
        for place, way in pairs(PLACES, ("left", "right")):
            told = turn_motion(list(place), way)
            is_new_tuple(self, told)
            self.assertEqual(told[2], ratio(1 if way == "left" else -1))
            self.assertEqual(centre_of(told), place)

    def test_turn_motion_refuses(self):
        for way in NO_WAYS:
            with self.assertRaises(BadWay):
                turn_motion(row("1 1"), way)
            with self.assertRaises(BadWay):
                turn_motion(None, way)
        for place in NO_COUPLES:
            for way in ("left", "right"):
                with self.assertRaises(BadPlace):
                    turn_motion(place, way)

    def test_slide_motion(self):
        self.assertEqual(slide_motion(row("1/2 -3")), row("1/2 -3 0"))
        self.assertEqual(slide_motion([ratio(0), ratio(1)]), row("0 1 0"))
        is_new_tuple(self, slide_motion([ratio(0), ratio(1)]))

    def test_plain_motion(self):
        self.assertEqual(plain_motion(row("1/2 -1/3 0")), row("3 -2 0"))
        self.assertEqual(plain_motion(list(row("-4 6 -10"))), row("-2 3 -5"))
        self.assertEqual(plain_motion(row("0 0 -1/9")), row("0 0 -1"))
        for one in MOTIONS[1:]:
            self.assertTrue(is_plain(plain_motion(one)))
            is_new_tuple(self, plain_motion(one))

    def test_plain_direction(self):
        self.assertEqual(plain_direction(row("1/2 -1/3")), row("3 -2"))
        self.assertEqual(plain_direction(list(row("0 -7"))), row("0 -1"))
        self.assertEqual(plain_direction(row("4 6")), row("2 3"))


class Velocities(unittest.TestCase):

    def test_velocity(self):
        self.assertEqual(velocity_at(row("1 2 3"), row("4 5")), row("-14 14"))
        for motion, place in pairs(MOTIONS, PLACES):
            (u, v, w), (x, y) = values(motion), values(place)
            self.assertEqual(velocity_at(motion, place), row(u - w * y, v + w * x))
            self.assertEqual(velocity_at(list(motion), list(place)), velocity_at(motion, place))
            is_new_tuple(self, velocity_at(list(motion), list(place)))

    def test_velocity_refuses(self):
        for place in NO_COUPLES:
            with self.assertRaises(BadPlace):
                velocity_at(row("1 2 3"), place)
            with self.assertRaises(BadPlace):
                velocity_at(REST, place)

    def test_sum_multiple_opposite(self):
        for one, other in pairs(MOTIONS, repeat=2):
            told = motions_sum(list(one), other)
            is_new_tuple(self, told)
            self.assertEqual(told, row(*[a + b for a, b in zip(values(one), values(other))]))
        for one in MOTIONS:
            self.assertEqual(opposite_motion(list(one)), row(*[-a for a in values(one)]))
            for by in ("0", "1", "-7/3"):
                self.assertEqual(scaled_motion(list(one), ratio(by)), row(*[a * Fraction(by) for a in values(one)]))

    def test_motion_from(self):
        for motion, place, other in pairs(MOTIONS, PLACES, PLACES):
            if place != other:
                one, two = velocity_at(motion, place), velocity_at(motion, other)
                self.assertEqual(motion_from(place, one, other, two), motion)
                told = motion_from(list(place), list(one), list(other), list(two))
                self.assertEqual(told, motion)
                is_new_tuple(self, told)

    def test_motion_from_by_hand(self):
        self.assertEqual(motion_from(row("0 0"), row("0 0"), row("1 0"), row("0 1")), row("0 0 1"))
        self.assertEqual(motion_from(row("0 0"), row("1 2"), row("3 1"), row("1 2")), row("1 2 0"))
        self.assertEqual(motion_from(row("1 0"), row("0 0"), row("1 2"), row("4 0")), row("0 2 -2"))
        self.assertIsNone(motion_from(row("0 0"), row("0 0"), row("1 0"), row("1 0")))
        self.assertIsNone(motion_from(row("0 0"), row("0 0"), row("1 0"), row(Fraction(1, GREAT), 1)))
        self.assertIsNone(motion_from(row("0 0"), row("1 1"), row("1 1"), row("2 1")))

    def test_motion_from_refuses(self):
        place, other, velocity = row("0 0"), row("1 0"), row("0 0")
        for thing in NO_COUPLES:
            with self.assertRaises(BadMotion):
                motion_from(place, thing, other, velocity)
            with self.assertRaises(BadMotion):
                motion_from(place, velocity, other, thing)
            with self.assertRaises(BadMotion):
                motion_from(None, velocity, other, thing)
            with self.assertRaises(BadMotion):
                motion_from(place, velocity, place, thing)
            with self.assertRaises(BadPlace):
                motion_from(thing, velocity, other, velocity)
            with self.assertRaises(BadPlace):
                motion_from(place, velocity, thing, velocity)
            with self.assertRaises(BadPlace):
                motion_from(place, velocity, thing, row("5 0"))
        for same in (place, list(place)):
            for further in (velocity, row("1 0"), row("0 1")):
                with self.assertRaises(BadPlace):
                    motion_from(place, velocity, same, further)


class LedAlong(unittest.TestCase):

    def test_by_hand(self):
        motion = row("1 2 3")
        self.assertEqual(shifted_motion(motion, row("5 7")), row("22 -13 3"))
        self.assertEqual(turned_motion(motion), row("-2 1 3"))
        self.assertEqual(mirrored_motion(motion), row("-1 2 -3"))
        self.assertEqual(grown_motion(motion, ratio("1/2")), row("1/2 1 3"))

    def test_velocities(self):
        for motion, place in pairs(MOTIONS, PLACES):
            (x, y), (a, b) = values(place), values(velocity_at(motion, place))
            by, size = row("-3/7 2"), Fraction(5, 3)
            moved = row(x - Fraction(3, 7), y + 2)
            self.assertEqual(velocity_at(shifted_motion(list(motion), list(by)), moved), row(a, b))
            self.assertEqual(velocity_at(turned_motion(list(motion)), row(-y, x)), row(-b, a))
            self.assertEqual(velocity_at(mirrored_motion(list(motion)), row(-x, y)), row(-a, b))
            grown = grown_motion(list(motion), ratio(size))
            self.assertEqual(velocity_at(grown, row(size * x, size * y)), row(size * a, size * b))
            for told in (grown, turned_motion(motion), mirrored_motion(motion), shifted_motion(motion, by)):
                is_new_tuple(self, told)

    def test_refuses(self):
        for thing in NO_COUPLES:
            with self.assertRaises(BadPlace):
                shifted_motion(row("1 2 3"), thing)
        for size in NO_RATIOS + (ratio(0), ratio(-1), ratio("-1/2")):
            with self.assertRaises(BadSize):
                grown_motion(row("1 2 3"), size)

    def test_nothing_is_changed(self):
        motion, place = list(row("1 2 3")), list(row("4 5"))
        for ask in (check_motion, is_rest, is_slide, centre_of, plain_motion, opposite_motion, turned_motion,
                    mirrored_motion, lambda one: velocity_at(one, place), lambda one: shifted_motion(one, place)):
            ask(motion)
        self.assertEqual((motion, place), (list(row("1 2 3")), list(row("4 5"))))


if __name__ == "__main__":
    unittest.main()
