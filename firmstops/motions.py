"""Motions: tuples (u, v, w) of ratios that give the place (x, y) the velocity (u - w y, v + w x)."""

from firmstops.errors import BadDirection, BadMotion, BadPlace, BadSize, BadWay, NoCentre
from firmstops.linear import plain_of
from firmstops.places import check_place, cross_of, dot_of, is_couple, place_minus
from firmstops.ratios import ONE, ZERO, is_ratio, is_ratio_row, minus, negative, over, plus, sign_of, times

REST = ((0, 1), (0, 1), (0, 1))


def check_motion(motion):
    """Return a motion as a tuple."""
    if not is_ratio_row(motion, 3):
        raise BadMotion()
    return tuple(motion)


def check_moving(motion):
    """Return a motion that is not rest as a tuple."""
    kept = check_motion(motion)
    if kept == REST:
        raise BadMotion()
    return kept


def is_direction(thing):
    """Return whether a thing of any kind is a couple that is not (0, 0)."""
    return is_couple(thing) and tuple(thing) != (ZERO, ZERO)


def check_direction(direction):
    """Return a direction as a tuple."""
    if not is_direction(direction):
        raise BadDirection()
    return tuple(direction)


def is_way(thing):
    """Return whether a thing of any kind is "left" or "right"."""
    return isinstance(thing, str) and thing in ("left", "right")


def check_way(way):
    """Return a way, "left" or "right"."""
    if not is_way(way):
        raise BadWay()
    return way


def is_rest(motion):
    """Return whether a motion is rest."""
    return check_motion(motion) == REST


def is_slide(motion):
    """Return whether a motion is a slide; rest is none."""
    kept = check_motion(motion)
    return kept != REST and kept[2] == ZERO


def centre_of(motion):
    """Return the one place with velocity (0, 0)."""
    u, v, w = check_motion(motion)
    if w == ZERO:
        raise NoCentre()
    return (negative(over(v, w)), over(u, w))


def turn_motion(centre, way):
    """Return the motion about a centre with w = 1 for "left" and w = -1 for "right"."""
    to_left = check_way(way) == "left"
    x, y = check_place(centre)
    if to_left:
        return (y, negative(x), ONE)
    return (negative(y), x, negative(ONE))


def slide_motion(direction):
    """Return the slide along a direction."""
    return check_direction(direction) + (ZERO,)


def plain_motion(motion):
    """Return the plain motion that is a motion times a ratio above 0."""
    return plain_of(check_moving(motion))


def plain_direction(direction):
    """Return the plain direction that is a direction times a ratio above 0."""
    return plain_of(check_direction(direction))


def velocity_at(motion, place):
    """Return the velocity of a place."""
    u, v, w = check_motion(motion)
    x, y = check_place(place)
    return (minus(u, times(w, y)), plus(v, times(w, x)))


def motions_sum(one, other):
    """Return the sum of two motions."""
    first, second = check_motion(one), check_motion(other)
    return tuple([plus(part, further) for part, further in zip(first, second)])


def scaled_motion(motion, by):
    """Return a motion times a ratio."""
    return tuple([times(part, by) for part in check_motion(motion)])


def opposite_motion(motion):
    """Return a motion times -1."""
    return tuple([negative(part) for part in check_motion(motion)])


def motion_from(place, velocity, other, further):
    """Return the motion that gives two places their velocities, or None."""
    if not is_couple(velocity) or not is_couple(further):
        raise BadMotion()
    here, there = check_place(place), check_place(other)
    if here == there:
        raise BadPlace()
    apart = place_minus(there, here)
    change = place_minus(further, velocity)
    if sign_of(dot_of(apart, change)) != 0:
        return None
    w = over(cross_of(apart, change), dot_of(apart, apart))
    return (plus(velocity[0], times(w, here[1])), minus(velocity[1], times(w, here[0])), w)


def shifted_motion(motion, by):
    """Return the motion, led along, of the work shifted by a couple."""
    u, v, w = check_motion(motion)
    x, y = check_place(by)
    return (plus(u, times(w, y)), minus(v, times(w, x)), w)


def turned_motion(motion):
    """Return the motion, led along, of the turned work."""
    u, v, w = check_motion(motion)
    return (negative(v), u, w)


def mirrored_motion(motion):
    """Return the motion, led along, of the mirrored work."""
    u, v, w = check_motion(motion)
    return (negative(u), v, negative(w))


def grown_motion(motion, size):
    """Return the motion, led along, of the grown work."""
    u, v, w = check_motion(motion)
    if not is_ratio(size) or sign_of(size) <= 0:
        raise BadSize()
    return (times(u, size), times(v, size), w)
