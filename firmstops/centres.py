"""Centres of turns about which no stop comes past its own side."""

from firmstops.areas import common_extent
from firmstops.barring import rates_of
from firmstops.errors import BadSwing
from firmstops.motions import check_way, turn_motion
from firmstops.places import dot_of, place_minus, place_plus, place_scaled
from firmstops.ratios import ZERO, is_ratio, negative, sign_of
from firmstops.stops import check_stop, check_stops


def check_swing(swing):
    """Return a swing: a ratio from 0 on."""
    if not is_ratio(swing) or sign_of(swing) < 0:
        raise BadSwing()
    return swing


def half_at(work, stop, way, swing):
    """Return the half of the centres about which a stop stays on its side; the arguments are right ones."""
    side, spot = stop
    along, push = work.side_of(side), place_scaled(work.normals[side], swing)
    lead = place_plus(push, along) if way == "left" else place_minus(push, along)
    reach = dot_of(lead, work.place_at(side, spot))
    return (negative(lead[0]), negative(lead[1]), negative(reach))


def centre_half(work, stop, way, swing):
    """Return the half of the centres about which a turn brings a stop not past its own side."""
    kept = check_stop(work, stop)
    return half_at(work, kept, check_way(way), check_swing(swing))


def centres_at(work, stops, way, swing):
    """Return the extent of the centres about which a turn brings no stop past its own side."""
    kept = check_stops(work, stops)
    check_way(way)
    check_swing(swing)
    return common_extent([half_at(work, stop, way, swing) for stop in kept])


def centres_of(work, stops, way):
    """Return the extent of the centres of the free turn motions of a way."""
    return centres_at(work, stops, way, ZERO)


def about_place(work, stops, place, way):
    """Return what stops do to the turn motion about a place: "barred", "grazed" or "free"."""
    kept = check_stops(work, stops)
    signs = [sign_of(rate) for rate in rates_of(work, kept, turn_motion(place, way))]
    if -1 in signs:
        return "barred"
    return "grazed" if 0 in signs else "free"
