"""Ranges: what amounts a stop may have, and how far a pull may be shifted and be borne."""

from firmstops.cones import motions_about
from firmstops.elimination import product_of_wholes, whole_row
from firmstops.errors import NoStop
from firmstops.pushes import check_pull, right_rows, rows_of
from firmstops.ratios import ZERO, compare, greatest_of, is_whole, least_of, over, sign_of
from firmstops.stretches import check_closed, choices_of, chosen_stops, right_end_rows

# An amount is from 0 on: -1 times it is at most 0.
FROM_ZERO_ON = ((-1, 1), (0, 1))


def range_under(limits):
    """Return (low, high): for just the ratios between, lead * t is at most rest for all limits (lead, rest).

    None stands for a low or high that there is not, and for the whole if no ratio is under all limits.
    """
    lows, highs = [], []
    for lead, rest in limits:
        if sign_of(lead) > 0:
            highs.append(over(rest, lead))
        elif sign_of(lead) < 0:
            lows.append(over(rest, lead))
        elif sign_of(rest) < 0:
            return None
    low = greatest_of(lows) if len(lows) > 0 else None
    high = least_of(highs) if len(highs) > 0 else None
    if low is not None and high is not None and compare(low, high) > 0:
        return None
    return (low, high)


def pull_limits(rows, pull, further):
    """Return the limits of t under which rows bear pull + t * further."""
    numbers, _ = whole_row(tuple(pull) + tuple(further))
    limits = []
    for motion in motions_about(rows):
        tops = [number[0] for number in motion]
        lead, rest = product_of_wholes(numbers[3:], tops), -product_of_wholes(numbers[:3], tops)
        limits.append(((lead, 1), (rest, 1)))
    return limits


def amounts_let(rows, pull, number):
    """Return (low, high): the amounts that a row may have where rows bear a right pull, or None."""
    # The row with its amount is a part of what the others have to bear.
    others = rows[:number] + rows[number + 1:]
    return range_under(pull_limits(others, pull, rows[number]) + [FROM_ZERO_ON])


def amount_range(work, stops, pull, number):
    """Return (low, high): the amounts that a stop may have where the stops bear a pull, or None."""
    rows = rows_of(work, stops)
    kept = check_pull(pull)
    if not is_whole(number, 0, len(rows) - 1):
        raise NoStop(number)
    return amounts_let(rows, kept, number)


def needed_stops(work, stops, pull):
    """Return the ascending indices of the stops without which the others do not bear a pull that all bear."""
    rows = rows_of(work, stops)
    kept = check_pull(pull)
    ranges = [amounts_let(rows, kept, number) for number in range(len(rows))]
    return tuple([
        number for number, let in enumerate(ranges) if let is not None and compare(let[0], ZERO) > 0
    ])


def pull_range(work, stops, pull, further):
    """Return (low, high): just the t between for which stops bear pull + t * further, or None."""
    rows = rows_of(work, stops)
    return range_under(pull_limits(rows, check_pull(pull), check_pull(further)))


def all_pull_range(work, stretches, pull, further):
    """Return the range of pull_range for which the pull is borne for all spots of closed stretches."""
    kept = check_closed(work, stretches)
    told_pull, told_further = check_pull(pull), check_pull(further)
    limits = []
    for choice in choices_of(kept):
        limits += pull_limits(right_rows(work, chosen_stops(kept, choice)), told_pull, told_further)
    return range_under(limits)


def some_pull_range(work, stretches, pull, further):
    """Return the range of pull_range for which the pull is borne for some spots of closed stretches."""
    kept = check_closed(work, stretches)
    rows = right_end_rows(work, kept)
    return range_under(pull_limits(rows, check_pull(pull), check_pull(further)))
