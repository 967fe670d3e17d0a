"""What stops do to motions: bar them, be grazed by them, be left by them."""

from firmstops.linear import product_of
from firmstops.motions import check_motion
from firmstops.pushes import row_of, rows_of
from firmstops.ratios import ONE, ZERO, compare, greatest_of, least_of, minus, over, sign_of


def rate_at(work, stop, motion):
    """Return the rate of a stop at a motion: the product of its row and the motion."""
    row = row_of(work, stop)
    return product_of(row, check_motion(motion))


def stop_sign(work, stop, motion):
    """Return the sign of the rate of a stop: -1 if it bars, 0 if it is grazed, 1 if it is left."""
    return sign_of(rate_at(work, stop, motion))


def rates_of(work, stops, motion):
    """Return the rates of all stops at a motion."""
    rows = rows_of(work, stops)
    kept = check_motion(motion)
    return tuple([product_of(row, kept) for row in rows])


def stops_with_sign(work, stops, motion, sign):
    """Return the ascending indices of the stops whose rate has a sign."""
    rates = rates_of(work, stops, motion)
    return tuple([index for index, rate in enumerate(rates) if sign_of(rate) == sign])


def barring_stops(work, stops, motion):
    """Return the ascending indices of the stops that bar a motion."""
    return stops_with_sign(work, stops, motion, -1)


def grazed_stops(work, stops, motion):
    """Return the ascending indices of the stops that a motion grazes."""
    return stops_with_sign(work, stops, motion, 0)


def left_stops(work, stops, motion):
    """Return the ascending indices of the stops that a motion leaves."""
    return stops_with_sign(work, stops, motion, 1)


def first_bar(work, stops, motion):
    """Return the index of the first stop that bars a motion, or None."""
    bars = barring_stops(work, stops, motion)
    return bars[0] if len(bars) > 0 else None


def is_free(work, stops, motion):
    """Return whether no stop bars a motion."""
    return first_bar(work, stops, motion) is None


def share_at_zero(first, last):
    """Return the share of the way from one number to an unlike one at which 0 is met."""
    return over(first, minus(first, last))


def free_share(work, stops, one, other):
    """Return (first, last): the shares of the way between two motions at which no stop bars, or None."""
    begins = rates_of(work, stops, one)
    ends = rates_of(work, stops, other)
    lows, highs = [ZERO], [ONE]
    for begin, end in zip(begins, ends):
        if sign_of(begin) < 0 and sign_of(end) < 0:
            return None
        if sign_of(begin) < 0:
            lows.append(share_at_zero(begin, end))
        elif sign_of(end) < 0:
            highs.append(share_at_zero(begin, end))
    first, last = greatest_of(lows), least_of(highs)
    return None if compare(first, last) > 0 else (first, last)
