"""Couples of ratios: places of the floor, and differences between places."""

from firmstops.errors import BadPlace
from firmstops.ratios import compare, is_ratio_row, minus, negative, plus, sum_of, times


def is_couple(thing):
    """Return whether a thing of any kind is a sequence of two ratios."""
    return is_ratio_row(thing, 2)


def check_place(place):
    """Return a couple as a tuple."""
    if not is_couple(place):
        raise BadPlace()
    return tuple(place)


def place_plus(one, other):
    """Return the sum of two couples."""
    return (plus(one[0], other[0]), plus(one[1], other[1]))


def place_minus(one, other):
    """Return the first couple less the second one."""
    return (minus(one[0], other[0]), minus(one[1], other[1]))


def place_scaled(one, by):
    """Return a couple with both numbers times a ratio."""
    return (times(one[0], by), times(one[1], by))


def dot_of(one, other):
    """Return x1 * x2 + y1 * y2."""
    return plus(times(one[0], other[0]), times(one[1], other[1]))


def cross_of(one, other):
    """Return x1 * y2 - y1 * x2."""
    return minus(times(one[0], other[1]), times(one[1], other[0]))


def quarter_left(one):
    """Return the couple turned by a quarter to the left."""
    return (negative(one[1]), one[0])


def mean_place(places):
    """Return the mean of at least one place."""
    total_x = sum_of([place[0] for place in places])
    total_y = sum_of([place[1] for place in places])
    return place_scaled((total_x, total_y), (1, len(places)))


def compare_places(one, other):
    """Return -1, 0 or 1: compare x, and y if both x are equal."""
    by_x = compare(one[0], other[0])
    return by_x if by_x != 0 else compare(one[1], other[1])
