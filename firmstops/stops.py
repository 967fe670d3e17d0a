"""Stops: couples (side, spot), the number of a side and a ratio strictly between 0 and 1."""

from firmstops.errors import BadStop
from firmstops.places import check_place, dot_of, place_minus
from firmstops.ratios import ONE, is_ratio, is_sequence, is_whole, minus, over, sign_of


def is_inner_spot(thing):
    """Return whether a thing of any kind is a ratio strictly between 0 and 1."""
    return is_ratio(thing) and 0 < thing[0] < thing[1]


def stop_word(work, thing):
    """Return None for a thing that is a stop of the work, otherwise what is wrong with it."""
    if not is_sequence(thing) or len(thing) != 2:
        return "stop"
    if not is_whole(thing[0], 0, len(work) - 1):
        return "side"
    return None if is_inner_spot(thing[1]) else "spot"


def is_stop(work, thing):
    """Return whether a thing of any kind is a stop of the work."""
    return stop_word(work, thing) is None


def stop_told(work, stop, index):
    """Return a stop as a tuple; errors tell the index."""
    word = stop_word(work, stop)
    if word is not None:
        raise BadStop(index, word)
    return tuple(stop)


def check_stop(work, stop):
    """Return a stop of the work as a tuple."""
    return stop_told(work, stop, 0)


def check_stops(work, stops):
    """Return 0 to 8 stops of the work as a tuple of tuples."""
    if not is_sequence(stops) or len(stops) > 8:
        raise BadStop(0, "many")
    return tuple([stop_told(work, stop, index) for index, stop in enumerate(stops)])


def stop_places(work, stops):
    """Return the places at which the stops stand."""
    return tuple([work.place_at(side, spot) for side, spot in check_stops(work, stops)])


def spot_on(work, side, place):
    """Return the spot of a place that lies on the line of a side."""
    along = work.side_of(side)
    ahead = place_minus(place, work.corner_of(side))
    return over(dot_of(ahead, along), dot_of(along, along))


def stop_at(work, place):
    """Return the stop that stands at a place, or None."""
    there = check_place(place)
    for side in range(len(work)):
        if sign_of(work.value_at(side, there)) == 0:
            spot = spot_on(work, side, there)
            if is_inner_spot(spot):
                return (side, spot)
    return None


def mirrored_stops(work, stops):
    """Return the stops of the mirrored work at the corresponding places."""
    last = len(work) - 1
    return tuple([(last - side, minus(ONE, spot)) for side, spot in check_stops(work, stops)])


def begun_stops(work, stops, corner):
    """Return the stops, at the same places, of the work that begins at another corner."""
    kept = check_stops(work, stops)
    work.check_side(corner)
    return tuple([((side - corner) % len(work), spot) for side, spot in kept])
