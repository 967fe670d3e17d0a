"""Three stops that hold a work: the feet of one place on three sides."""

from firmstops.areas import Area, common_extent, extent_sign, middle_of
from firmstops.clasps import clasp_amounts
from firmstops.elimination import index_sets
from firmstops.errors import BadSides
from firmstops.freely import opposite
from firmstops.places import check_place, dot_of, is_couple
from firmstops.ratios import are_ascending, is_sequence
from firmstops.stops import is_inner_spot, is_stop, spot_on


class Three:
    """Three sides, a place over the inner parts of all three, and its feet on them."""

    def __init__(self, sides, point, stops):
        self.sides = sides
        self.point = point
        self.stops = stops

    def __eq__(self, other):
        return (
            isinstance(other, Three) and self.sides == other.sides
            and self.point == other.point and self.stops == other.stops
        )


def feet_on(work, place):
    """Return the stops at the feet of a place, at most one for each side."""
    there = check_place(place)
    feet = [(side, spot_on(work, side, there)) for side in range(len(work))]
    return tuple([foot for foot in feet if is_inner_spot(foot[1])])


def are_three_sides(work, thing):
    """Return whether a thing is a sequence of three side numbers in strictly ascending order."""
    return are_ascending(thing, len(work)) and len(thing) == 3


def strip_halves(work, side):
    """Return the two halves of the places whose feet on the line of a side lie on the side, its corners let."""
    along = work.side_of(side)
    begin, end = work.corners[side], work.corners[(side + 1) % len(work)]
    back = opposite(along)
    return (along + (dot_of(along, begin),), back + (dot_of(back, end),))


def area_over(work, sides):
    """Return the holding area of three right sides, or None."""
    if clasp_amounts([work.normals[side] for side in sides]) is None:
        return None
    extent = common_extent([half for side in sides for half in strip_halves(work, side)])
    return extent if isinstance(extent, Area) else None


def holding_area(work, sides):
    """Return the Area of the places over three sides that oppose, or None."""
    if not are_three_sides(work, sides):
        raise BadSides(sides)
    return area_over(work, sides)


def holding_areas(work):
    """Yield the couple (sides, area) for each three sides with a holding area, ascending."""
    for sides in index_sets(len(work), 3):
        area = area_over(work, sides)
        if area is not None:
            yield (sides, area)


def feet_of(work, place, sides):
    """Return the feet of a place on some sides, in their order."""
    return tuple([(side, spot_on(work, side, place)) for side in sides])


def three_for(work):
    """Return Three with the first three sides that can hold the work, or None."""
    for sides, area in holding_areas(work):
        point = middle_of(area)
        return Three(sides, point, feet_of(work, point, sides))
    return None


def are_stops_like(work, thing, stops):
    """Return whether a thing is a sequence of stops of the work that are equal to right ones."""
    if not is_sequence(thing) or len(thing) != len(stops):
        return False
    return all([is_stop(work, one) and tuple(one) == stop for one, stop in zip(thing, stops)])


def three_fault(work, three):
    """Judge a Three: None, or the first word that applies."""
    first = three_for(work)
    if first is None or not are_three_sides(work, three.sides) or tuple(three.sides) != first.sides:
        return "sides"
    if not is_couple(three.point) or extent_sign(area_over(work, first.sides), three.point) != 1:
        return "point"
    feet = feet_of(work, tuple(three.point), first.sides)
    return None if are_stops_like(work, three.stops, feet) else "stops"


def fewest_held(work):
    """Return the least number of stops that hold the work at some spots."""
    return 4 if three_for(work) is None else 3
