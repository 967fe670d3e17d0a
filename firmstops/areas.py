"""Extents: what places several halves of the floor have in common."""

from firmstops.elimination import whole_row
from firmstops.errors import BadHalves, NoMiddle
from firmstops.freely import cone_shape
from firmstops.places import check_place, compare_places, cross_of, dot_of, mean_place, place_minus
from firmstops.ratios import ZERO, compare, greatest_of, is_ratio_row, is_sequence, least_of, lowest, sign_of


class Empty:
    """No place."""

    def __eq__(self, other):
        return isinstance(other, Empty)


class Point:
    """One place."""

    def __init__(self, place):
        self.place = place

    def __eq__(self, other):
        return isinstance(other, Point) and self.place == other.place


class Segment:
    """The places from one place to another one, the lesser one first."""

    def __init__(self, one, other):
        self.one = one
        self.other = other

    def __eq__(self, other):
        return isinstance(other, Segment) and self.one == other.one and self.other == other.other


class Area:
    """A convex polygon with its rim: its corners turn left, the least one is the first."""

    def __init__(self, corners):
        self.corners = corners

    def __eq__(self, other):
        return isinstance(other, Area) and self.corners == other.corners


class Unbounded:
    """What halves have in common along all of which some direction leads."""

    def __eq__(self, other):
        return isinstance(other, Unbounded)


def check_halves(halves):
    """Return halves as a list of tuples."""
    if not is_sequence(halves):
        raise BadHalves(0)
    for index, half in enumerate(halves):
        if not is_ratio_row(half, 3) or (half[0] == ZERO and half[1] == ZERO):
            raise BadHalves(index)
    return [tuple(half) for half in halves]


def rim_bounds(half, halves):
    """Return (low, high): how far along the rim line of a half all halves let, or None if nowhere.

    Halves are whole numbers. The rim line of (p, q, r) is told from its place nearest to (0, 0) on,
    in steps of (q, -p), so that the half is on the left. A bound is (top, bottom) with the bottom
    above 0, and stands for top / (bottom (p p + q q)); it is not made lowest.
    """
    p, q, r = half
    lows, highs = [], []
    for a, b, c in halves:
        lead = a * q - b * p
        rest = c * (p * p + q * q) - (a * p + b * q) * r
        if lead > 0:
            lows.append((rest, lead))
        elif lead < 0:
            highs.append((-rest, -lead))
        elif rest > 0:
            return None
    low, high = greatest_of(lows), least_of(highs)
    return (low, high) if compare(low, high) <= 0 else None


def rim_place(half, bound):
    """Return the place of a bound on the rim line of a half."""
    p, q, r = half
    rest, lead = bound
    bottom = lead * (p * p + q * q)
    return (lowest(p * r * lead + q * rest, bottom), lowest(q * r * lead - p * rest, bottom))


def rim_ways(halves):
    """Return a dict that leads from each corner of what halves have in common to the next one.

    The halves are whole numbers, and no direction leads along all of them. Corners are met in
    going round with the places on the left; a lone place leads to itself.
    """
    ways = {}
    for half in halves:
        bounds = rim_bounds(half, halves)
        if bounds is not None:
            begin, end = rim_place(half, bounds[0]), rim_place(half, bounds[1])
            # A rim that only touches a corner tells nothing where another one leads on from there.
            if begin != end or begin not in ways:
                ways[begin] = end
    return ways


def least_place(places):
    """Return the least of at least one place."""
    least = places[0]
    for place in places:
        if compare_places(place, least) < 0:
            least = place
    return least


def common_extent(halves):
    """Return the extent of the places that are of all halves."""
    kept = check_halves(halves)
    if cone_shape([half[:2] for half in kept]) is not None:
        return Unbounded()
    ways = rim_ways([tuple(whole_row(half)[0]) for half in kept])
    if len(ways) == 0:
        return Empty()
    corners = [least_place(list(ways))]
    while ways[corners[-1]] != corners[0]:
        corners.append(ways[corners[-1]])
    if len(corners) == 1:
        return Point(corners[0])
    if len(corners) == 2:
        return Segment(corners[0], corners[1])
    return Area(tuple(corners))


def work_halves(work):
    """Return one half for each side of a work, whose places are the work with its rim."""
    return tuple([
        (normal[0], normal[1], dot_of(normal, corner)) for normal, corner in zip(work.normals, work.corners)
    ])


def area_sign(corners, place):
    """Return 1 for a place within corners that turn left, 0 on their rim and -1 elsewhere."""
    return min([
        sign_of(cross_of(place_minus(corners[at], corners[at - 1]), place_minus(place, corners[at])))
        for at in range(len(corners))
    ])


def is_between(one, other, place):
    """Return whether a place lies on the segment from one place to another one."""
    first, second = place_minus(one, place), place_minus(other, place)
    return sign_of(cross_of(first, second)) == 0 and sign_of(dot_of(first, second)) <= 0


def extent_sign(extent, place):
    """Return 1 for an inner place of an Area, 0 for other places of an extent and -1 for all others."""
    there = check_place(place)
    if isinstance(extent, Area):
        return area_sign(extent.corners, there)
    if isinstance(extent, Segment):
        return 0 if is_between(extent.one, extent.other, there) else -1
    if isinstance(extent, Point):
        return 0 if tuple(extent.place) == there else -1
    return -1


def middle_of(extent):
    """Return the middle of a Point, a Segment or an Area."""
    if isinstance(extent, Point):
        return tuple(extent.place)
    if isinstance(extent, Segment):
        return mean_place((extent.one, extent.other))
    if isinstance(extent, Area):
        return mean_place(extent.corners)
    raise NoMiddle()
