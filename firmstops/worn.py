"""Worn works, rods pressed onto other works, and how far a work may be worn."""

from firmstops.errors import BadShares, NoMeeting, WornOut
from firmstops.linear import plain_of
from firmstops.places import cross_of, dot_of, place_minus
from firmstops.pushes import row_of
from firmstops.ratios import ONE, ZERO, is_ratio, is_sequence, least_of, minus, negative, over, plus, sign_of
from firmstops.ratios import sum_of, times
from firmstops.stops import check_stops, is_inner_spot, spot_on
from firmstops.works import Work


def check_shares(work, shares):
    """Return one ratio for each side of a work as a tuple."""
    if not is_sequence(shares) or len(shares) != len(work):
        raise BadShares(0)
    for index, share in enumerate(shares):
        if not is_ratio(share):
            raise BadShares(index)
    return tuple(shares)


def worn_line(work, side, share):
    """Return the normal of a side and the product that it has with all places of the worn side's line."""
    normal = work.normals[side]
    return (normal, plus(dot_of(normal, work.corners[side]), times(share, dot_of(normal, normal))))


def meeting_of(one, other):
    """Return the place of two lines that are not parallel, each told by its normal and product."""
    (normal, product), (further, reach) = one, other
    turn = cross_of(normal, further)
    x = minus(times(product, further[1]), times(reach, normal[1]))
    y = minus(times(reach, normal[0]), times(product, further[0]))
    return (over(x, turn), over(y, turn))


def worn_work(work, shares):
    """Return the work whose sides have been moved inwards by shares of their normals."""
    lines = [worn_line(work, side, share) for side, share in enumerate(check_shares(work, shares))]
    corners = [meeting_of(lines[at - 1], line) for at, line in enumerate(lines)]
    for side in range(len(work)):
        left = place_minus(corners[(side + 1) % len(work)], corners[side])
        if sign_of(dot_of(left, work.side_of(side))) <= 0:
            raise WornOut(side)
    return Work(corners)


def rod_of(work, stop):
    """Return the rod of a stop: its plain row."""
    return plain_of(row_of(work, stop))


def facing_side(work, normal):
    """Return the side whose normal is a normal times a ratio above 0, or None."""
    for side, own in enumerate(work.normals):
        if sign_of(cross_of(own, normal)) == 0 and sign_of(dot_of(own, normal)) > 0:
            return side
    return None


def pressed_stop(work, stop, other):
    """Return the stop of another work that has the same rod, or None."""
    side = facing_side(other, work.normals[stop[0]])
    if side is None:
        return None
    # The foot of the stop's place on the side is where the normal line meets it.
    spot = spot_on(other, side, work.place_at(stop[0], stop[1]))
    return (side, spot) if is_inner_spot(spot) else None


def pressed_stops(work, stops, other):
    """Return the stops of another work that have the same rods, in the same order."""
    pressed = [pressed_stop(work, stop, other) for stop in check_stops(work, stops)]
    for index, stop in enumerate(pressed):
        if stop is None:
            raise NoMeeting(index)
    return tuple(pressed)


def corner_moves(work, corner, side):
    """Return how far a corner goes along one of its two sides, in lengths of the side, for each share.

    The corner stays on the worn lines of both sides, so only their two shares move it.
    """
    beside = corner - 1 if side == corner else corner
    normal, along = work.normals[beside], work.side_of(side)
    slant = dot_of(normal, along)
    moves = [ZERO] * len(work)
    moves[beside] = over(dot_of(normal, normal), slant)
    moves[side] = negative(over(dot_of(normal, work.normals[side]), slant))
    return moves


def side_needs(work, side, spots):
    """Return couples (rest, moves): rest + the sum of move times share must be above 0.

    The first couple says that the side keeps a length, two more for each spot that the foot of
    the stop there stays between the corners.
    """
    begin = corner_moves(work, side, side)
    end = corner_moves(work, (side + 1) % len(work), side)
    needs = [(ONE, [minus(far, near) for far, near in zip(end, begin)])]
    for spot in spots:
        needs.append((spot, [negative(near) for near in begin]))
        needs.append((minus(ONE, spot), end))
    return needs


def need_limit(need):
    """Return the least size of shares that can break a need."""
    rest, moves = need
    return over(rest, sum_of([negative(move) if sign_of(move) < 0 else move for move in moves]))


def wear_limit(work, stops):
    """Return (limit, shares): all shares within the limit can be worn, these shares at it cannot."""
    kept = check_stops(work, stops)
    needs = []
    for side in range(len(work)):
        needs += side_needs(work, side, [spot for at, spot in kept if at == side])
    limits = [need_limit(need) for need in needs]
    limit = least_of(limits)
    moves = needs[limits.index(limit)][1]
    return (limit, tuple([times((-sign_of(move), 1), limit) for move in moves]))
