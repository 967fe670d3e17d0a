"""Wishes: what a work among stops should be, bear or let."""

from firmstops.clasps import normals_of
from firmstops.errors import BadWish
from firmstops.held import is_held
from firmstops.leastlots import has_aim
from firmstops.motions import is_direction
from firmstops.places import dot_of
from firmstops.pulls import is_borne
from firmstops.ratios import is_ratio_row, is_sequence, sign_of
from firmstops.stops import check_stops


def is_wish(thing):
    """Return whether a thing of any kind is a wish."""
    if not is_sequence(thing) or not 1 <= len(thing) <= 2 or not isinstance(thing[0], str):
        return False
    if len(thing) == 1:
        return thing[0] in ("firm", "held", "loose")
    if thing[0] == "bears":
        return is_ratio_row(thing[1], 3)
    return thing[0] == "slid in" and is_direction(thing[1])


def wish_told(wish, index):
    """Raise BadWish, with the index, for a thing that is no wish."""
    if not is_wish(wish):
        raise BadWish(index, "wish")


def check_wish(wish):
    """Raise BadWish for a thing that is no wish."""
    wish_told(wish, 0)


def check_wishes(wishes):
    """Raise BadWish for anything but 0 to 4 wishes."""
    if not is_sequence(wishes) or len(wishes) > 4:
        raise BadWish(0, "many")
    for index, wish in enumerate(wishes):
        wish_told(wish, index)


def lets_in(work, stops, direction):
    """Return whether the work can be slid in along a direction among right stops."""
    return all([sign_of(dot_of(normal, direction)) <= 0 for normal in normals_of(work, stops)])


def is_met(work, stops, wish):
    """Return whether a right wish holds for right stops."""
    if wish[0] == "loose":
        return not is_held(work, stops)
    if wish[0] == "bears":
        return is_borne(work, stops, wish[1])
    if wish[0] == "slid in":
        return lets_in(work, stops, wish[1])
    return has_aim(work, stops, wish[0])


def are_met(work, stops, wishes):
    """Return whether all right wishes hold for right stops."""
    for wish in wishes:
        if not is_met(work, stops, wish):
            return False
    return True


def holds_wish(work, stops, wish):
    """Return whether a wish holds."""
    kept = check_stops(work, stops)
    check_wish(wish)
    return is_met(work, kept, wish)


def holds_all(work, stops, wishes):
    """Return whether all of 0 to 4 wishes hold."""
    kept = check_stops(work, stops)
    check_wishes(wishes)
    return are_met(work, kept, wishes)
