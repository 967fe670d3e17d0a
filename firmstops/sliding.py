"""Works that are slid in among stops along one direction, and works that are stuck among them."""

from firmstops.clasps import clasp_lots, normals_of
from firmstops.errors import BadFar
from firmstops.freely import cone_shape, opposite
from firmstops.linearjudges import are_from_zero_on, has_no_sum, is_plain
from firmstops.motions import check_direction, is_direction
from firmstops.places import cross_of, dot_of, place_scaled
from firmstops.ratios import ONE, ZERO, are_ascending, is_ratio, negative, sign_of
from firmstops.stops import check_stops


class SlidIn:
    """A direction along which the work can be slid in."""

    def __init__(self, direction):
        self.direction = direction

    def __eq__(self, other):
        return isinstance(other, SlidIn) and self.direction == other.direction


class Stuck:
    """Stops with amounts of their normals that leave the work no slide in."""

    def __init__(self, numbers, amounts):
        self.numbers = numbers
        self.amounts = amounts

    def __eq__(self, other):
        return isinstance(other, Stuck) and self.numbers == other.numbers and self.amounts == other.amounts


def slid_from(work, direction, far):
    """Return the work at a far before it has come to its place along a direction."""
    kept = check_direction(direction)
    if not is_ratio(far) or sign_of(far) < 0:
        raise BadFar()
    return work.shifted(place_scaled(kept, negative(far)))


def slide_ins(work, stops):
    """Return the shape of the directions along which the work can be slid in among stops."""
    return cone_shape([opposite(normal) for normal in normals_of(work, check_stops(work, stops))])


def are_along_one_line(normals):
    """Return whether some normals are all along one line."""
    return all([sign_of(cross_of(normals[0], normal)) == 0 for normal in normals])


def stuck_among(normals):
    """Return Stuck for normals with which no slide goes in.

    A clasp of three is enough. If there is none, there are clasps of two along two lines.
    """
    lots = clasp_lots(normals)
    threes = [lot for lot in lots if len(lot[0]) == 3]
    if len(threes) > 0:
        return Stuck(threes[0][0], threes[0][1])
    first = lots[0]
    across = [lot for lot in lots if sign_of(cross_of(normals[lot[0][0]], normals[first[0][0]])) != 0][0]
    told = sorted(list(zip(first[0] + across[0], first[1] + across[1])))
    return Stuck(tuple([number for number, _ in told]), tuple([amount for _, amount in told]))


def slid_or_stuck(work, stops):
    """Return SlidIn with a direction along which the work can be slid in, or Stuck."""
    kept = check_stops(work, stops)
    shape = slide_ins(work, kept)
    if shape is None:
        return stuck_among(normals_of(work, kept))
    return SlidIn(shape[1] if len(shape) > 1 else (ONE, ZERO))


def slid_word(normals, direction):
    """Return the first word that applies to the direction of a SlidIn, or None."""
    if not is_direction(direction) or not is_plain(direction):
        return "direction"
    return "barred" if any([sign_of(dot_of(normal, direction)) > 0 for normal in normals]) else None


def stuck_word(normals, stuck):
    """Return the first word that applies to a Stuck, or None."""
    numbers, amounts = stuck.numbers, stuck.amounts
    if not are_ascending(numbers, len(normals)) or len(numbers) == 0:
        return "numbers"
    if not are_from_zero_on(amounts, len(numbers)) or any([sign_of(amount) == 0 for amount in amounts]):
        return "amounts"
    some = [normals[number] for number in numbers]
    if not has_no_sum(some, amounts):
        return "balance"
    return "line" if are_along_one_line(some) else None


def slid_fault(work, stops, result):
    """Judge a SlidIn or a Stuck: None, or the first word that applies."""
    normals = normals_of(work, stops)
    if isinstance(result, SlidIn):
        return slid_word(normals, result.direction)
    return stuck_word(normals, result)
