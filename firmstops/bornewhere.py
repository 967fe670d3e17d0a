"""Where pulls are borne: at which places along a direction, and along which directions at a place."""

from firmstops.areas import Empty, common_extent, work_halves
from firmstops.cones import motions_about
from firmstops.freely import cone_shape, opposite
from firmstops.linear import product_of
from firmstops.motions import check_direction, velocity_at
from firmstops.places import check_place, cross_of, mean_place, place_minus, place_plus, place_scaled
from firmstops.pushes import row_at, rows_of
from firmstops.ratios import ZERO, negative, over, plus, sign_of, sum_of, times


def bearing_halves(motions, direction):
    """Return the halves of the places at which motions have a product of at most 0 with the pull, or None.

    The product goes straight over the floor; that of a slide is the same everywhere, so it makes
    no half, and none of the places is left if it is above 0.
    """
    dx, dy = direction
    halves = []
    for u, v, w in motions:
        slid = plus(times(u, dx), times(v, dy))
        if sign_of(w) != 0:
            halves.append((negative(times(w, dy)), times(w, dx), slid))
        elif sign_of(slid) > 0:
            return None
    return tuple(halves)


def borne_places(work, stops, direction):
    """Return the extent of the places of the work at which the pull along a direction is borne."""
    rows = rows_of(work, stops)
    halves = bearing_halves(motions_about(rows), check_direction(direction))
    return Empty() if halves is None else common_extent(work_halves(work) + halves)


def missed_corner(work, stops, direction):
    """Return the index of the first corner at which the pull along a direction is not borne, or None."""
    rows = rows_of(work, stops)
    kept = check_direction(direction)
    motions = motions_about(rows)
    for index, corner in enumerate(work.corners):
        pull = row_at(corner, kept)
        if any([sign_of(product_of(pull, motion)) > 0 for motion in motions]):
            return index
    return None


def borne_directions(work, stops, place):
    """Return the shape of the directions whose pull at a place is borne."""
    rows = rows_of(work, stops)
    there = check_place(place)
    velocities = [velocity_at(motion, there) for motion in motions_about(rows)]
    return cone_shape([opposite(velocity) for velocity in velocities if velocity != (ZERO, ZERO)])


def weight_place(work):
    """Return the place at which the weight of an evenly thick work pulls."""
    first = work.corners[0]
    areas, means = [], []
    for one, other in zip(work.corners[1:], work.corners[2:]):
        # Twice the area of each triangle does as well: only their shares count.
        areas.append(cross_of(place_minus(one, first), place_minus(other, first)))
        means.append(mean_place((first, one, other)))
    total = (ZERO, ZERO)
    for area, mean in zip(areas, means):
        total = place_plus(total, place_scaled(mean, area))
    return place_scaled(total, over((1, 1), sum_of(areas)))
