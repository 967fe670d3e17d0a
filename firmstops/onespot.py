"""One further stop: at which spots it holds a work. And how far all stops may be off."""

from firmstops.allspots import all_firm
from firmstops.clasps import clasp_lots, normals_of, twist_of
from firmstops.errors import BadMost, BadStep, BadStop
from firmstops.firm import is_firm
from firmstops.freely import cone_shape
from firmstops.places import dot_of
from firmstops.pushes import right_rows, row_on
from firmstops.ratios import ONE, ZERO, compare, greatest_of, is_ratio, is_whole, least_of, minus, negative
from firmstops.ratios import over, plus, sign_of, times
from firmstops.stops import check_stops


def twists_with(work, stops, side):
    """Return (signs, spots) of all clasps of stops and a further one on a side.

    The signs are those of the twists of the clasps without the further stop, the spots those at
    which the twist of a clasp with it is 0: below such a spot the twist is below 0.
    """
    normal = work.normals[side]
    rows = right_rows(work, stops) + (row_on(work, side, ZERO),)
    signs, spots = [], []
    for indices, amounts in clasp_lots(normals_of(work, stops) + [normal]):
        twist = twist_of(rows, indices, amounts)
        if indices[-1] < len(stops):
            signs.append(sign_of(twist))
        else:
            spots.append(negative(over(twist, times(amounts[-1], dot_of(normal, normal)))))
    return (signs, spots)


def holding_spots(work, stops, side):
    """Return (low, high): a further stop on a side holds the work just from low to high, or None."""
    kept = check_stops(work, stops)
    normals = normals_of(work, kept) + [work.normal_of(side)]
    if cone_shape(normals) is not None:
        return None
    signs, spots = twists_with(work, kept, side)
    # Left turns are barred by a twist of at most 0, right turns by one of at least 0.
    low = ZERO if 1 in signs or 0 in signs else least_of(spots + [ONE])
    high = ONE if -1 in signs or 0 in signs else greatest_of(spots + [ZERO])
    low, high = greatest_of((low, ZERO)), least_of((high, ONE))
    return None if low == ONE or high == ZERO else (low, high)


def are_firm_within(work, stops, reach):
    """Return whether stops are firm wherever each is off its spot by at most a reach, none at a corner."""
    stretches = [(side, minus(spot, reach), plus(spot, reach)) for side, spot in stops]
    if any([sign_of(low) <= 0 or compare(high, ONE) >= 0 for _, low, high in stretches]):
        return False
    return all_firm(work, stretches) is None


def slack_steps(work, stops, step, most):
    """Return the greatest number of steps, up to most, that all stops may be off and be firm, or None."""
    kept = check_stops(work, stops)
    if len(kept) > 6:
        raise BadStop(0, "many")
    if not is_ratio(step) or sign_of(step) <= 0:
        raise BadStep()
    if not is_whole(most, 0, 12):
        raise BadMost(most)
    if not is_firm(work, kept):
        return None
    # All lesser numbers of steps fit, too, so the range that is left may be halved.
    fits, tries = 0, most
    while fits < tries:
        number = (fits + tries + 1) // 2
        if are_firm_within(work, kept, times(step, (number, 1))):
            fits = number
        else:
            tries = number - 1
    return fits
