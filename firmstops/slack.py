"""How far places of a work can be off where its seats have slack."""

from firmstops.elimination import columns_of, index_sets
from firmstops.errors import BadSlacks
from firmstops.freely import opposite
from firmstops.linear import rank_of, solve_products
from firmstops.motions import check_direction, velocity_at
from firmstops.places import check_place, compare_places, cross_of, place_minus, place_plus, place_scaled
from firmstops.pushes import right_rows, row_at
from firmstops.ratios import ONE, ZERO, compare, greatest_of, is_ratio, is_sequence, sign_of, sum_of, times
from firmstops.seats import seat_rows
from firmstops.stops import check_stops


class Reach:
    """The greatest product of a place's shift and a direction, and the signs of the slips that meet it."""

    def __init__(self, greatest, signs):
        self.greatest = greatest
        self.signs = signs

    def __eq__(self, other):
        return isinstance(other, Reach) and self.greatest == other.greatest and self.signs == other.signs


class WorkReach:
    """The greatest reach of all places of a work, and the first corner that meets it."""

    def __init__(self, greatest, corner):
        self.greatest = greatest
        self.corner = corner

    def __eq__(self, other):
        return isinstance(other, WorkReach) and self.greatest == other.greatest and self.corner == other.corner


class BestSeats:
    """The three stops that let a place reach least far along a direction, and how far."""

    def __init__(self, numbers, greatest):
        self.numbers = numbers
        self.greatest = greatest

    def __eq__(self, other):
        return isinstance(other, BestSeats) and self.numbers == other.numbers and self.greatest == other.greatest


def check_slacks(slacks, many):
    """Return slacks, one ratio from 0 on for each of so many stops, as a tuple."""
    if not is_sequence(slacks) or len(slacks) != many:
        raise BadSlacks(0, "many")
    for index, slack in enumerate(slacks):
        if not is_ratio(slack) or sign_of(slack) < 0:
            raise BadSlacks(index, "slack")
    return tuple(slacks)


def shares_at(rows, place):
    """Return the shares of seats, told by their rows, at a place."""
    units = [[ONE if other == at else ZERO for other in range(len(rows))] for at in range(len(rows))]
    return tuple([velocity_at(solve_products(rows, slips), place) for slips in units])


def reach_of(rows, slacks, place, direction):
    """Return the Reach of a place along a direction for seats, told by their rows."""
    # The rate of the row at the place is the place's velocity times the direction, so where this row is a
    # sum of the seats' rows, each seat's part is the product of its share and the direction.
    products = solve_products(columns_of(rows), row_at(place, direction))
    signs = tuple([sign_of(product) for product in products])
    return Reach(sum_of([
        times(slack, times((sign, 1), product)) for slack, sign, product in zip(slacks, signs, products)
    ]), signs)


def slip_shares(work, seats, place):
    """Return the share of each seat at a place: the velocity that slip 1 of this seat alone gives it."""
    kept = check_stops(work, seats)
    there = check_place(place)
    return shares_at(seat_rows(work, kept), there)


def spot_reach(work, seats, slacks, place, direction):
    """Return the Reach of a place along a direction over all slips within the slacks."""
    kept = check_stops(work, seats)
    there, way = check_place(place), check_direction(direction)
    rows = seat_rows(work, kept)
    return reach_of(rows, check_slacks(slacks, 3), there, way)


def work_reach(work, seats, slacks, direction):
    """Return the WorkReach along a direction over all slips within the slacks and all places of the work."""
    kept = check_stops(work, seats)
    way = check_direction(direction)
    rows = seat_rows(work, kept)
    let = check_slacks(slacks, 3)
    reaches = [reach_of(rows, let, corner, way).greatest for corner in work.corners]
    greatest = greatest_of(reaches)
    return WorkReach(greatest, reaches.index(greatest))


def ahead_of_none(step):
    """Return a step or its opposite: the one that leads from (0, 0) to a place that is not lesser."""
    return opposite(step) if compare_places(step, (ZERO, ZERO)) < 0 else step


def turned_in_order(steps):
    """Return steps, of which none leads to a lesser place, going left, those along one line as one step."""
    found = []
    for step in steps:
        before = [other for other in found if sign_of(cross_of(other, step)) > 0]
        along = [other for other in found if sign_of(cross_of(other, step)) == 0]
        behind = [other for other in found if sign_of(cross_of(other, step)) < 0]
        joined = place_plus(along[0], step) if len(along) > 0 else step
        found = before + [joined] + behind
    return found


def rim_of(steps):
    """Return the corners, the least one first, of the polygon of all sums of parts, from -1 to 1, of steps."""
    corner = (ZERO, ZERO)
    for step in steps:
        corner = place_minus(corner, step)
    ways = [place_scaled(step, (2, 1)) for step in steps]
    back = [opposite(way) for way in ways]
    corners = [corner]
    # The last way back would lead to the first corner again.
    for way in ways + back[:-1]:
        corner = place_plus(corner, way)
        corners.append(corner)
    return tuple(corners)


def reach_corners(work, seats, slacks, place):
    """Return the corners of the polygon of all shifts of a place over all slips within the slacks."""
    kept = check_stops(work, seats)
    there = check_place(place)
    rows = seat_rows(work, kept)
    let = check_slacks(slacks, 3)
    shifts = [place_scaled(share, slack) for share, slack in zip(shares_at(rows, there), let)]
    moving = [ahead_of_none(shift) for shift in shifts if shift != (ZERO, ZERO)]
    return rim_of(turned_in_order(moving))


def best_seats(work, stops, slacks, place, direction):
    """Return BestSeats: the seats among stops that let a place reach least far along a direction, or None."""
    kept = check_stops(work, stops)
    there, way = check_place(place), check_direction(direction)
    let = check_slacks(slacks, len(kept))
    rows = right_rows(work, kept)
    best = None
    for numbers in index_sets(len(kept), 3):
        some = [rows[number] for number in numbers]
        if rank_of(some) == 3:
            greatest = reach_of(some, [let[number] for number in numbers], there, way).greatest
            if best is None or compare(greatest, best.greatest) < 0:
                best = BestSeats(numbers, greatest)
    return best
