"""First lots of stops, among which the work can be slid in before the others are set behind it."""

from firmstops.clasps import normals_of
from firmstops.errors import BadLot
from firmstops.freely import opposite
from firmstops.places import dot_of
from firmstops.ratios import are_ascending, sign_of
from firmstops.sliding import slide_ins
from firmstops.stops import check_stops


def lots_along(work, stops):
    """Return the lots of stops that let a slide in, along the sides of the stops and the opposite ways."""
    normals = normals_of(work, stops)
    found = {}
    for side, _ in stops:
        for way in (work.side_of(side), opposite(work.side_of(side))):
            lot = [number for number, normal in enumerate(normals) if sign_of(dot_of(normal, way)) <= 0]
            found[tuple(lot)] = True
    return list(found)


def is_part(lot, other):
    """Return whether a lot is a part of another one, but not all of it."""
    return len(lot) < len(other) and all([number in other for number in lot])


def settings(work, stops):
    """Return all greatest first lots, those with more stops first."""
    kept = check_stops(work, stops)
    if len(kept) == 0:
        return ((),)
    # Each greatest first lot is met along a side, so a part of another such lot is none.
    lots = lots_along(work, kept)
    greatest = [lot for lot in lots if not any([is_part(lot, other) for other in lots])]
    return tuple([lot for _, lot in sorted([(-len(lot), lot) for lot in greatest])])


def fewest_behind(work, stops):
    """Return the least number of stops that must be set behind the work."""
    kept = check_stops(work, stops)
    return len(kept) - len(settings(work, kept)[0])


def setting_slides(work, stops, lot):
    """Return the shape of the directions along which the work can be slid in among the stops of a lot."""
    kept = check_stops(work, stops)
    if not are_ascending(lot, len(kept)):
        raise BadLot()
    return slide_ins(work, [kept[number] for number in lot])
