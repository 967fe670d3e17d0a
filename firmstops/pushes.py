"""Rows of stops, and pulls."""

from firmstops.errors import BadPull
from firmstops.places import cross_of
from firmstops.ratios import is_ratio_row
from firmstops.stops import check_stop, check_stops


def row_at(place, direction):
    """Return (dx, dy, x dy - y dx) for a place and a direction."""
    return (direction[0], direction[1], cross_of(place, direction))


def row_on(work, side, spot):
    """Return the row of a spot, any ratio, on the line of a side."""
    return row_at(work.place_at(side, spot), work.normal_of(side))


def row_of(work, stop):
    """Return the row of a stop."""
    side, spot = check_stop(work, stop)
    return row_on(work, side, spot)


def right_rows(work, stops):
    """Return the rows of stops that are known to be right ones, in their order."""
    return tuple([row_on(work, side, spot) for side, spot in stops])


def rows_of(work, stops):
    """Return the rows of stops, in their order."""
    return right_rows(work, check_stops(work, stops))


def check_pull(pull):
    """Return a pull as a tuple."""
    if not is_ratio_row(pull, 3):
        raise BadPull()
    return tuple(pull)
