"""Stretches of spots, their ends, and what stops within them do to a motion."""

from firmstops.barring import share_at_zero
from firmstops.errors import BadChoice, BadStretch
from firmstops.linear import product_of
from firmstops.motions import check_motion
from firmstops.pushes import row_on
from firmstops.ratios import ONE, ZERO, compare, is_ratio, is_sequence, is_whole, minus, plus, sign_of, times


def is_low(thing):
    """Return whether a thing is a ratio from 0 on and below 1."""
    return is_ratio(thing) and 0 <= thing[0] < thing[1]


def is_high(thing, low):
    """Return whether a thing is a ratio above 0, at most 1 and not below a low."""
    return is_ratio(thing) and 0 < thing[0] <= thing[1] and compare(thing, low) >= 0


def stretch_told(work, stretch, index):
    """Return a stretch as a tuple; errors tell the index."""
    if not is_sequence(stretch) or len(stretch) != 3:
        raise BadStretch(index, "stretch")
    side, low, high = stretch
    if not is_whole(side, 0, len(work) - 1):
        raise BadStretch(index, "side")
    if not is_low(low):
        raise BadStretch(index, "low")
    if not is_high(high, low):
        raise BadStretch(index, "high")
    return (side, low, high)


def check_stretches(work, stretches):
    """Return 1 to 6 stretches as a tuple of tuples."""
    if not is_sequence(stretches) or not 1 <= len(stretches) <= 6:
        raise BadStretch(0, "many")
    return tuple([stretch_told(work, stretch, index) for index, stretch in enumerate(stretches)])


def check_closed(work, stretches):
    """Return stretches none of which reaches a corner as a tuple of tuples."""
    kept = check_stretches(work, stretches)
    for index, (_, low, high) in enumerate(kept):
        if low == ZERO or high == ONE:
            raise BadStretch(index, "corner")
    return kept


def check_wide(work, stretches):
    """Return at least 4 stretches, each longer than a spot, as a tuple of tuples."""
    kept = check_stretches(work, stretches)
    if len(kept) < 4:
        raise BadStretch(0, "few")
    for index, (_, low, high) in enumerate(kept):
        if low == high:
            raise BadStretch(index, "point")
    return kept


def choices_of(stretches):
    """Yield all choices of ends in their order: 0 is a low end, 1 a high one."""
    choices = [()]
    for _ in stretches:
        choices = [choice + (end,) for choice in choices for end in (0, 1)]
    for choice in choices:
        yield choice


def is_choice(thing, many):
    """Return whether a thing is a sequence of just so many whole numbers 0 or 1."""
    return is_sequence(thing) and len(thing) == many and all([is_whole(end, 0, 1) for end in thing])


def chosen_stops(stretches, choice):
    """Return the stops at the chosen ends of right stretches."""
    return tuple([(stretch[0], stretch[1 + end]) for stretch, end in zip(stretches, choice)])


def end_stops(work, stretches, choice):
    """Return the stops at the chosen ends of closed stretches."""
    kept = check_closed(work, stretches)
    if not is_choice(choice, len(kept)):
        raise BadChoice()
    return chosen_stops(kept, choice)


def end_couples(work, stretches):
    """Return for each of right stretches the row at its low end and the row at its high end."""
    return [(row_on(work, side, low), row_on(work, side, high)) for side, low, high in stretches]


def right_end_rows(work, stretches):
    """Return the end rows of right stretches: low and high end of each one in order."""
    return tuple([row for couple in end_couples(work, stretches) for row in couple])


def end_rows(work, stretches):
    """Return the end rows of stretches: low and high end of each one in order."""
    return right_end_rows(work, check_stretches(work, stretches))


def spots_let(work, stretch, motion):
    """Return (low, high): just the spots of a stretch at which a stop does not bar a motion, or None."""
    kept = check_stretches(work, (stretch,))
    told = check_motion(motion)
    begin, end = [product_of(row, told) for row in right_end_rows(work, kept)]
    _, low, high = kept[0]
    if sign_of(begin) < 0 and sign_of(end) < 0:
        return None
    if sign_of(begin) >= 0 and sign_of(end) >= 0:
        return (low, high)
    turning = plus(low, times(share_at_zero(begin, end), minus(high, low)))
    return (turning, high) if sign_of(begin) < 0 else (low, turning)


def motion_fate(work, stretches, motion):
    """Return "free" or "barred" if a motion is so wherever the stops stand, otherwise "depends"."""
    kept = check_stretches(work, stretches)
    told = check_motion(motion)
    many = [
        len([row for row in couple if sign_of(product_of(row, told)) < 0]) for couple in end_couples(work, kept)
    ]
    if 2 in many:
        return "barred"
    return "depends" if 1 in many else "free"
