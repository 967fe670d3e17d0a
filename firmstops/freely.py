"""Shapes of directions, free slides and edges, and the spots at which a further stop makes a work firm."""

from firmstops.barring import share_at_zero
from firmstops.edges import edges_of
from firmstops.errors import LowRank, NoStop
from firmstops.linear import plain_of, product_of, rank_of
from firmstops.motions import check_direction
from firmstops.places import cross_of, dot_of, quarter_left
from firmstops.pushes import row_on, rows_of
from firmstops.ratios import ONE, ZERO, compare, greatest_of, is_whole, least_of, negative, sign_of
from firmstops.stops import check_stops


def opposite(direction):
    """Return the opposite of a direction."""
    return (negative(direction[0]), negative(direction[1]))


def unlike_directions(directions):
    """Return directions made plain, each of equal ones once."""
    return list({plain_of(direction): True for direction in directions})


def is_let(direction, normals):
    """Return whether a direction has a product from 0 on with all normals."""
    return all([sign_of(dot_of(normal, direction)) >= 0 for normal in normals])


def let_ones(directions, normals):
    """Return the directions that all normals let."""
    return [direction for direction in directions if is_let(direction, normals)]


def line_direction(direction):
    """Return a direction or its opposite: the one whose first number that is not 0 is above 0."""
    lead = sign_of(direction[0])
    if lead < 0 or (lead == 0 and sign_of(direction[1]) < 0):
        return opposite(direction)
    return direction


def cone_shape(normals):
    """Return the shape of all directions with a product from 0 on with all normals."""
    unlike = unlike_directions(normals)
    if len(unlike) == 0:
        return ("all",)
    # Each normal lets the half turn from its right to its left; a shape ends where some of these do.
    ends = [quarter_left(normal) for normal in unlike]
    lefts = let_ones(ends, unlike)
    rights = let_ones([opposite(end) for end in ends], unlike)
    if len(lefts) == 0:
        return None
    if len(lefts) == 2:
        return ("line", line_direction(lefts[0]))
    if lefts == rights:
        return ("ray", lefts[0])
    kind = "half" if len(unlike) == 1 else "wedge"
    return (kind, rights[0], lefts[0])


def in_shape(shape, direction):
    """Return whether a direction belongs to a shape."""
    kept = check_direction(direction)
    if shape is None:
        return False
    if shape[0] == "all":
        return True
    bend = sign_of(cross_of(shape[1], kept))
    if shape[0] == "half":
        return bend >= 0
    if shape[0] == "wedge":
        return bend >= 0 and sign_of(cross_of(kept, shape[2])) >= 0
    return bend == 0 and (shape[0] == "line" or sign_of(dot_of(shape[1], kept)) > 0)


def free_slides(work, stops):
    """Return the shape of the directions of free slides."""
    return cone_shape([work.normals[side] for side, _ in check_stops(work, stops)])


def free_edges(work, stops):
    """Return the plain motions, ascending, whose sums are all free motions."""
    rows = rows_of(work, stops)
    if len(rows) == 0:
        raise LowRank(0)
    return edges_of(rows)


def firming_range(edges, begin, end):
    """Return (low, high): the spots of a side whose stop bars all edges, strictly between the two, or None.

    The rows at spot 0 and spot 1 of the side are given; between them a rate goes straight.
    """
    low, high = ZERO, ONE
    for edge in edges:
        first, last = product_of(begin, edge), product_of(end, edge)
        if sign_of(first) >= 0 and sign_of(last) >= 0:
            return None
        if sign_of(first) > 0:
            low = greatest_of((low, share_at_zero(first, last)))
        elif sign_of(last) > 0:
            high = least_of((high, share_at_zero(first, last)))
    return (low, high) if compare(low, high) < 0 else None


def firming_spots(work, stops, side):
    """Return (low, high): a further stop on a side makes the work firm just strictly between, or None."""
    rows = rows_of(work, stops)
    begin, end = row_on(work, side, ZERO), row_on(work, side, ONE)
    # A row that lifts the rank is in no balance, so it never helps rows of a rank below 3.
    if len(rows) < 3 or rank_of(rows) < 3:
        return None
    return firming_range(edges_of(rows), begin, end)


def keeping_spots(work, stops, number):
    """Return the firming spots of the other stops on the side of one stop."""
    kept = check_stops(work, stops)
    if not is_whole(number, 0, len(kept) - 1):
        raise NoStop(number)
    return firming_spots(work, kept[:number] + kept[number + 1:], kept[number][0])
