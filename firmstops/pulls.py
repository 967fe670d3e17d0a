"""Pulls: what acts on a work from outside, and whether stops bear it."""

from firmstops.errors import BadPull, BadSize
from firmstops.firm import motion_word
from firmstops.linear import plain_of, product_of, weighted_sum
from firmstops.motions import check_direction
from firmstops.places import check_place, cross_of
from firmstops.pushes import check_pull, right_rows, row_at, rows_of
from firmstops.ratios import is_ratio, is_ratio_row, is_sequence, negative, plus, sign_of, sum_of, times
from firmstops.stiemke import Amounts, bear_target

NO_PULL = ((0, 1), (0, 1), (0, 1))


class Pushes:
    """Amounts from 0 on, one for each stop, that bear a pull."""

    def __init__(self, amounts):
        self.amounts = amounts

    def __eq__(self, other):
        return isinstance(other, Pushes) and self.amounts == other.amounts


class Pulled:
    """A free motion whose product with a pull is above 0."""

    def __init__(self, motion):
        self.motion = motion

    def __eq__(self, other):
        return isinstance(other, Pulled) and self.motion == other.motion


def pull_at(place, direction):
    """Return the pull at a place along a direction."""
    return row_at(check_place(place), check_direction(direction))


def check_pulls(pulls):
    """Return a sequence of pulls as a list of tuples."""
    if not is_sequence(pulls):
        raise BadPull()
    return [check_pull(pull) for pull in pulls]


def pulls_sum(pulls):
    """Return the sum of a sequence of pulls."""
    kept = check_pulls(pulls)
    return tuple([sum_of([pull[at] for pull in kept]) for at in range(3)])


def shifted_pull(pull, by):
    """Return the pull, led along, of the work shifted by a couple."""
    x, y, moment = check_pull(pull)
    return (x, y, plus(moment, cross_of(check_place(by), (x, y))))


def turned_pull(pull):
    """Return the pull, led along, of the turned work."""
    x, y, moment = check_pull(pull)
    return (negative(y), x, moment)


def mirrored_pull(pull):
    """Return the pull, led along, of the mirrored work."""
    x, y, moment = check_pull(pull)
    return (negative(x), y, negative(moment))


def grown_pull(pull, size):
    """Return the pull, led along, of the grown work."""
    x, y, moment = check_pull(pull)
    if not is_ratio(size) or sign_of(size) <= 0:
        raise BadSize()
    return (x, y, times(size, moment))


def pushes_or_pulled(rows, pull):
    """Return Pushes with amounts of rows that bear a right pull, or Pulled."""
    if len(rows) == 0:
        return Pushes(()) if pull == NO_PULL else Pulled(plain_of(pull))
    told = bear_target(rows, [negative(number) for number in pull])
    return Pushes(told.amounts) if isinstance(told, Amounts) else Pulled(told.direction)


def bear_pull(work, stops, pull):
    """Return Pushes with amounts that bear a pull, or Pulled with a free motion along it."""
    rows = rows_of(work, stops)
    return pushes_or_pulled(rows, check_pull(pull))


def is_borne(work, stops, pull):
    """Return whether stops bear a pull."""
    return isinstance(bear_pull(work, stops, pull), Pushes)


def first_unborne(work, stops, pulls):
    """Return the index of the first pull that is not borne, or None."""
    rows = rows_of(work, stops)
    for index, pull in enumerate(check_pulls(pulls)):
        if isinstance(pushes_or_pulled(rows, pull), Pulled):
            return index
    return None


def balances_pull(rows, pull, amounts):
    """Return whether the weighted sum of rows and a pull add up to zeros."""
    if len(rows) == 0:
        return tuple(pull) == NO_PULL
    return weighted_sum(rows, amounts) == tuple([negative(number) for number in pull])


def pulled_word(rows, pull, motion):
    """Return the first word that applies to a free motion that is to show a pull not to be borne, or None."""
    word = motion_word(rows, motion)
    if word is None and sign_of(product_of(pull, motion)) <= 0:
        return "product"
    return word


def pushes_word(rows, pull, amounts):
    """Return the first word that applies to amounts that are to bear a pull, or None."""
    if not is_ratio_row(amounts, len(rows)):
        return "amounts"
    if any([sign_of(amount) < 0 for amount in amounts]):
        return "below"
    return None if balances_pull(rows, pull, amounts) else "sum"


def bear_pull_fault(work, stops, pull, result):
    """Judge what bear_pull returns: None, or the first word that applies."""
    if isinstance(result, Pushes):
        return pushes_word(right_rows(work, stops), pull, result.amounts)
    if isinstance(result, Pulled):
        return pulled_word(right_rows(work, stops), pull, result.motion)
    return "result"
