"""Pairs of works that touch side to side, and the rows of all that pushes them."""

from firmstops.errors import BadStop, NoTouch
from firmstops.freely import opposite
from firmstops.motions import opposite_motion
from firmstops.places import check_place, compare_places
from firmstops.pushes import right_rows, row_at
from firmstops.ratios import ONE, ZERO, compare, greatest_of, is_sequence, least_of, sign_of
from firmstops.stops import check_stops, spot_on
from firmstops.worn import facing_side

NO_ROW = ((0, 1), (0, 1), (0, 1))


def shared_ends(one, side, other, facing):
    """Return the ends of the segment that two sides on one line share, the lesser first, or None."""
    corners = (other.corners[facing], other.corners[(facing + 1) % len(other)])
    spots = [spot_on(one, side, corner) for corner in corners]
    first = greatest_of((ZERO, least_of(spots)))
    last = least_of((ONE, greatest_of(spots)))
    if compare(first, last) >= 0:
        return None
    begin, end = one.place_at(side, first), one.place_at(side, last)
    return (begin, end) if compare_places(begin, end) < 0 else (end, begin)


def touch_of(one, other):
    """Return (sides, ends) of two works that touch along a line, or None."""
    for side, normal in enumerate(one.normals):
        facing = facing_side(other, opposite(normal))
        if facing is not None and sign_of(one.value_at(side, other.corners[facing])) == 0:
            ends = shared_ends(one, side, other, facing)
            if ends is not None:
                return ((side, facing), ends)
    return None


class Pair:
    """Two works that touch along a segment of a side of each."""

    def __init__(self, one, other):
        touch = touch_of(one, other)
        if touch is None:
            raise NoTouch()
        self.one = one
        self.other = other
        self.sides, self.ends = touch

    def __eq__(self, other):
        return isinstance(other, Pair) and self.one == other.one and self.other == other.other

    def swapped(self):
        """Return the pair with its other work first."""
        return Pair(self.other, self.one)

    def shifted(self, by):
        """Return the pair of both works shifted by a couple."""
        step = check_place(by)
        return Pair(self.one.shifted(step), self.other.shifted(step))


def check_few(work, stops):
    """Return 0 to 6 stops of a work as a tuple of tuples."""
    if is_sequence(stops) and len(stops) > 6:
        raise BadStop(0, "many")
    return check_stops(work, stops)


def check_both(pair, stops_one, stops_other):
    """Return the couple of the stops of both works of a pair."""
    kept = check_few(pair.one, stops_one)
    return (kept, check_few(pair.other, stops_other))


def end_push_rows(pair):
    """Return the rows of one's touching side at the two ends."""
    normal = pair.one.normals[pair.sides[0]]
    return [row_at(end, normal) for end in pair.ends]


def right_sixes(pair, stops_one, stops_other):
    """Return the sixes of all that pushes a pair whose stops are right ones."""
    sixes = [row + NO_ROW for row in right_rows(pair.one, stops_one)]
    sixes += [NO_ROW + row for row in right_rows(pair.other, stops_other)]
    sixes += [row + opposite_motion(row) for row in end_push_rows(pair)]
    return tuple(sixes)


def pair_rows(pair, stops_one, stops_other):
    """Return the sixes of the stops of one, of the stops of other, and of the two ends."""
    kept_one, kept_other = check_both(pair, stops_one, stops_other)
    return right_sixes(pair, kept_one, kept_other)
