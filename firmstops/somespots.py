"""What is so for some spots: stops within their stretches that are firm, or that bear a pull."""

from firmstops.linear import kernel_of, rank_of
from firmstops.places import cross_of, dot_of
from firmstops.pulls import Pushes, pushes_or_pulled
from firmstops.pushes import check_pull, right_rows
from firmstops.ratios import ZERO, least_of, minus, over, plus, sign_of, times
from firmstops.stiemke import Balance, balance_of
from firmstops.stretches import check_closed, check_wide, right_end_rows


class Placed:
    """Stops at some spots, and the amounts that show what holds there."""

    def __init__(self, stops, amounts):
        self.stops = stops
        self.amounts = amounts

    def __eq__(self, other):
        return isinstance(other, Placed) and self.stops == other.stops and self.amounts == other.amounts


class NoSpots:
    """A motion that no stop bars wherever the stops stand."""

    def __init__(self, motion):
        self.motion = motion

    def __eq__(self, other):
        return isinstance(other, NoSpots) and self.motion == other.motion


def placed_between(stretches, amounts):
    """Return Placed: the one stop of each stretch that stands for the amounts at its two ends."""
    stops, sums = [], []
    for at, (side, low, high) in enumerate(stretches):
        near, far = amounts[2 * at], amounts[2 * at + 1]
        total = plus(near, far)
        share = ZERO if sign_of(total) == 0 else over(far, total)
        stops.append((side, plus(low, times(share, minus(high, low)))))
        sums.append(total)
    return Placed(tuple(stops), tuple(sums))


def two_across(normals):
    """Return the indices of two normals that are not along one line; there are such."""
    across = [at for at, normal in enumerate(normals) if sign_of(cross_of(normals[0], normal)) != 0]
    return (0, across[0])


def parted(work, stretches, placed):
    """Return Placed with the same amounts, two stops moved so that the normal lines do not meet in one place.

    Two stops whose lines meet in one place alone stay. Two others are moved against one another:
    at an amount, a stop moved by a spot turns as much as amount * spot * the square of its side.
    """
    normals = [work.normals[side] for side, _, _ in stretches]
    kept = two_across(normals)
    up, down = [at for at in range(len(stretches)) if at not in kept][:2]
    weights = [times(amount, dot_of(normal, normal)) for amount, normal in zip(placed.amounts, normals)]
    spots = [spot for _, spot in placed.stops]
    rooms = (minus(stretches[up][2], spots[up]), minus(spots[down], stretches[down][1]))
    turn = times((1, 2), least_of((times(rooms[0], weights[up]), times(rooms[1], weights[down]))))
    spots[up] = plus(spots[up], over(turn, weights[up]))
    spots[down] = minus(spots[down], over(turn, weights[down]))
    return Placed(tuple([(side, spot) for (side, _, _), spot in zip(stretches, spots)]), placed.amounts)


def some_firm(work, stretches):
    """Return Placed with firm stops strictly between the ends of wide stretches, or NoSpots."""
    kept = check_wide(work, stretches)
    rows = right_end_rows(work, kept)
    kernel = kernel_of(rows)
    if len(kernel) > 0:
        return NoSpots(kernel[0])
    told = balance_of(rows)
    if not isinstance(told, Balance):
        return NoSpots(told.direction)
    placed = placed_between(kept, told.amounts)
    return placed if rank_of(right_rows(work, placed.stops)) == 3 else parted(work, kept, placed)


def some_bear(work, stretches, pull):
    """Return Placed with stops within closed stretches that bear a pull, or NoSpots."""
    kept = check_closed(work, stretches)
    told = pushes_or_pulled(right_end_rows(work, kept), check_pull(pull))
    return placed_between(kept, told.amounts) if isinstance(told, Pushes) else NoSpots(told.motion)
