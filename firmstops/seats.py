"""Seats: three stops of rank 3, which a work follows when they are off by slips."""

from firmstops.errors import BadSlips, NoSeats
from firmstops.linear import product_of, rank_of, solve_products
from firmstops.motions import check_motion
from firmstops.pushes import right_rows
from firmstops.ratios import is_ratio, is_sequence
from firmstops.stops import check_stops


def seat_rows(work, seats):
    """Return the rows of right stops that are seats."""
    if len(seats) != 3:
        raise NoSeats("many")
    rows = right_rows(work, seats)
    if rank_of(rows) < 3:
        raise NoSeats("rank")
    return rows


def check_seats(work, seats):
    """Return three stops whose rows have rank 3 as a tuple of tuples."""
    kept = check_stops(work, seats)
    seat_rows(work, kept)
    return kept


def check_slips(slips):
    """Return a slip for each of three seats as a tuple."""
    if not is_sequence(slips) or len(slips) != 3:
        raise BadSlips(0, "many")
    for index, slip in enumerate(slips):
        if not is_ratio(slip):
            raise BadSlips(index, "slip")
    return tuple(slips)


def rates_on(rows, motion):
    """Return the products of rows with a motion."""
    return tuple([product_of(row, motion) for row in rows])


def seats_shift(work, seats, slips):
    """Return the motion whose rate at each seat is the slip of this seat."""
    rows = seat_rows(work, check_stops(work, seats))
    return solve_products(rows, check_slips(slips))


def slips_of(work, seats, motion):
    """Return the slips of seats that a motion follows."""
    kept = check_stops(work, seats)
    told = check_motion(motion)
    return rates_on(seat_rows(work, kept), told)


def slips_between(work, seats, others, slips):
    """Return the slips of other seats that have the same motion as the slips of seats."""
    kept, kept_others = check_stops(work, seats), check_stops(work, others)
    rows, other_rows = seat_rows(work, kept), seat_rows(work, kept_others)
    return rates_on(other_rows, solve_products(rows, check_slips(slips)))
