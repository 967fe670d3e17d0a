"""Works: convex polygons with 3 to 8 corners that turn left."""

from firmstops.errors import BadSize, BadWork, NoSide
from firmstops.places import check_place, cross_of, dot_of, is_couple, mean_place
from firmstops.places import place_minus, place_plus, place_scaled, quarter_left
from firmstops.ratios import is_ratio, is_sequence, is_whole, negative, sign_of


def sides_between(corners):
    """Return the differences from each corner to the next one, the last one to corner 0."""
    return [place_minus(corners[(at + 1) % len(corners)], corner) for at, corner in enumerate(corners)]


def value_from(corner, normal, place):
    """Return the product of a normal with the difference from a corner to a place."""
    return dot_of(normal, place_minus(place, corner))


def rounds_of(sides):
    """Return how often sides that turn left everywhere go round."""
    # Each turn is less than a half turn, so each round has sides that point up, one behind the other,
    # and sides that do not.
    ups = [sign_of(side[1]) > 0 for side in sides]
    return len([at for at, up in enumerate(ups) if up and not ups[at - 1]])


def checked_corners(corners):
    """Return the corners of a work as a tuple of tuples."""
    if not is_sequence(corners) or not 3 <= len(corners) <= 8:
        raise BadWork(0, "many")
    for at, corner in enumerate(corners):
        if not is_couple(corner):
            raise BadWork(at, "corner")
    kept = tuple([tuple(corner) for corner in corners])
    sides = sides_between(kept)
    for at, side in enumerate(sides):
        if sign_of(cross_of(sides[at - 1], side)) <= 0:
            raise BadWork(at, "turn")
    if rounds_of(sides) != 1:
        raise BadWork(0, "round")
    return kept


class Work:
    """A convex polygon: its corners turn left, side k goes from corner k to the next one."""

    def __init__(self, corners):
        self.corners = checked_corners(corners)
        self.normals = tuple([quarter_left(side) for side in sides_between(self.corners)])

    def __eq__(self, other):
        return isinstance(other, Work) and self.corners == other.corners

    def __len__(self):
        return len(self.corners)

    def __contains__(self, place):
        return self.least_sign(place) >= 0

    @property
    def middle(self):
        """The mean of the corners."""
        return mean_place(self.corners)

    def check_side(self, side):
        """Raise NoSide for a thing that is no number of a side."""
        if not is_whole(side, 0, len(self.corners) - 1):
            raise NoSide(side)

    def corner_of(self, side):
        """Return the corner at which a side begins."""
        self.check_side(side)
        return self.corners[side]

    def side_of(self, side):
        """Return the difference between the two corners of a side."""
        self.check_side(side)
        return place_minus(self.corners[(side + 1) % len(self.corners)], self.corners[side])

    def normal_of(self, side):
        """Return the normal of a side, which points inwards and is as long as the side."""
        self.check_side(side)
        return self.normals[side]

    def place_at(self, side, spot):
        """Return the place at a spot of a side: 0 is the begin of the side, 1 its end."""
        return place_plus(self.corner_of(side), place_scaled(self.side_of(side), spot))

    def value_at(self, side, place):
        """Return the value of a place at a side: above 0 on the inner hand of its line."""
        return value_from(self.corner_of(side), self.normals[side], place)

    def least_sign(self, place):
        """Return the least sign of the values of a place at all sides."""
        return min([
            sign_of(value_from(corner, normal, place)) for corner, normal in zip(self.corners, self.normals)
        ])

    def is_within(self, place):
        """Return whether a place lies strictly within the work."""
        return self.least_sign(place) > 0

    def shifted(self, by):
        """Return the work with all corners plus a couple."""
        step = check_place(by)
        return Work([place_plus(corner, step) for corner in self.corners])

    def turned(self):
        """Return the work turned by a quarter to the left about (0, 0)."""
        return Work([quarter_left(corner) for corner in self.corners])

    def mirrored(self):
        """Return the work with each place (x, y) at (-x, y); corner 0 stays the first."""
        order = self.corners[:1] + self.corners[:0:-1]
        return Work([(negative(corner[0]), corner[1]) for corner in order])

    def grown(self, size):
        """Return the work with all numbers times a ratio above 0."""
        if not is_ratio(size) or sign_of(size) <= 0:
            raise BadSize()
        return Work([place_scaled(corner, size) for corner in self.corners])

    def begun_at(self, corner):
        """Return the same polygon with another corner first."""
        self.check_side(corner)
        return Work(self.corners[corner:] + self.corners[:corner])
