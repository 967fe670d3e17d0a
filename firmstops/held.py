"""Held works, and the slides and turns by which the others are loose."""

from firmstops.areas import middle_of
from firmstops.centres import about_place, centres_of
from firmstops.clasps import Clasp, are_held_twists, clasp_fault, clasps_of
from firmstops.freely import free_slides, in_shape
from firmstops.motions import is_direction, is_way
from firmstops.places import is_couple
from firmstops.ratios import ONE, ZERO, sign_of
from firmstops.stops import check_stops
from firmstops.turns import greatest_turn


class Held:
    """A held work, firm or by bend: a clasp against left turns and one against right turns."""

    def __init__(self, how, left, right):
        self.how = how
        self.left = left
        self.right = right

    def __eq__(self, other):
        return (
            isinstance(other, Held) and self.how == other.how
            and self.left == other.left and self.right == other.right
        )


class Slide:
    """A free slide, without end."""

    def __init__(self, direction):
        self.direction = direction

    def __eq__(self, other):
        return isinstance(other, Slide) and self.direction == other.direction


class Turn:
    """A real turn about a centre, and the greatest swing of it."""

    def __init__(self, centre, way, most):
        self.centre = centre
        self.way = way
        self.most = most

    def __eq__(self, other):
        return (
            isinstance(other, Turn) and self.centre == other.centre
            and self.way == other.way and self.most == other.most
        )


def first_with_twist(clasps, sign):
    """Return the first clasp with this sign of its twist, if there is none the first with twist 0, or None."""
    for wanted in (sign, 0):
        for clasp in clasps:
            if sign_of(clasp.twist) == wanted:
                return clasp
    return None


def how_held(left, right):
    """Return how a work is held by the clasps of first_with_twist."""
    return "bend" if sign_of(left.twist) == 0 or sign_of(right.twist) == 0 else "firm"


def loose_turn(work, stops, way):
    """Return the Turn of this way of a work whose centres of this way are an Area."""
    centre = middle_of(centres_of(work, stops, way))
    return Turn(centre, way, greatest_turn(work, stops, centre, way))


def held_or_loose(work, stops):
    """Return Held, or the Slide or the Turn by which the work is loose."""
    kept = check_stops(work, stops)
    shape = free_slides(work, kept)
    if shape is not None:
        return Slide(shape[1] if len(shape) > 1 else (ONE, ZERO))
    clasps = list(clasps_of(work, kept))
    left, right = first_with_twist(clasps, -1), first_with_twist(clasps, 1)
    if left is None:
        return loose_turn(work, kept, "left")
    if right is None:
        return loose_turn(work, kept, "right")
    return Held(how_held(left, right), left, right)


def is_held(work, stops):
    """Return whether the work can make no real motion at all."""
    kept = check_stops(work, stops)
    if free_slides(work, kept) is not None:
        return False
    return are_held_twists([sign_of(clasp.twist) for clasp in clasps_of(work, kept)])


def is_against(work, stops, clasp, sign):
    """Return whether a thing is a right clasp whose twist has this sign or is 0."""
    if not isinstance(clasp, Clasp) or clasp_fault(work, stops, clasp) is not None:
        return False
    return sign_of(clasp.twist) in (sign, 0)


def held_fault(work, stops, held):
    """Judge a Held: None, or the first word that applies."""
    if free_slides(work, stops) is not None:
        return "slide"
    if not is_against(work, stops, held.left, -1):
        return "left"
    if not is_against(work, stops, held.right, 1):
        return "right"
    # Clasps with twist 0 are let in a firm work, too, so these two do not tell how it is held.
    clasps = list(clasps_of(work, stops))
    right_word = how_held(first_with_twist(clasps, -1), first_with_twist(clasps, 1))
    return None if held.how == right_word else "how"


def slide_word(work, stops, direction):
    """Return the first word that applies to the direction of a Slide, or None."""
    if not is_direction(direction):
        return "direction"
    return None if in_shape(free_slides(work, stops), direction) else "barred"


def loose_fault(work, stops, loose):
    """Judge a Slide or a Turn: None, or the first word that applies."""
    if isinstance(loose, Slide):
        return slide_word(work, stops, loose.direction)
    if not is_couple(loose.centre):
        return "centre"
    if not is_way(loose.way):
        return "way"
    if about_place(work, stops, loose.centre, loose.way) != "free":
        return "barred"
    return None if loose.most == greatest_turn(work, stops, loose.centre, loose.way) else "most"
