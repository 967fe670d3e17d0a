"""Ratios: tuples (top, bottom) of whole numbers in lowest terms, the bottom 1 or more."""

from math import gcd

from firmstops.errors import BadRatio

ZERO = (0, 1)
ONE = (1, 1)


def is_whole(thing, low=None, high=None):
    """Return whether a thing of any kind is a whole number from low to high."""
    if isinstance(thing, bool) or not isinstance(thing, int):
        return False
    if low is not None and thing < low:
        return False
    return high is None or thing <= high


def is_ratio(thing):
    """Return whether a thing of any kind is a ratio."""
    if not isinstance(thing, tuple) or len(thing) != 2:
        return False
    top, bottom = thing
    return is_whole(top) and is_whole(bottom, 1) and gcd(top, bottom) == 1


def is_sequence(thing):
    """Return whether a thing of any kind is a sequence: a list or a tuple."""
    return isinstance(thing, (list, tuple))


def is_ratio_row(thing, many):
    """Return whether a thing of any kind is a sequence of just so many ratios."""
    return is_sequence(thing) and len(thing) == many and all([is_ratio(one) for one in thing])


def are_ascending(thing, many):
    """Return whether a thing of any kind is a sequence of indices below a number, strictly ascending."""
    if not is_sequence(thing) or not all([is_whole(one, 0, many - 1) for one in thing]):
        return False
    return all([one < other for one, other in zip(thing, thing[1:])])


def lowest(top, bottom):
    """Return the ratio of two whole numbers of which the second is not 0."""
    shared = gcd(top, bottom)
    if bottom < 0:
        shared = -shared
    return (top // shared, bottom // shared)


def make_ratio(top, bottom=1):
    """Return the ratio of two whole numbers."""
    if not is_whole(top):
        raise BadRatio("top")
    if not is_whole(bottom) or bottom == 0:
        raise BadRatio("bottom")
    return lowest(top, bottom)


def plus(one, other):
    """Return the sum of two ratios."""
    return lowest(one[0] * other[1] + other[0] * one[1], one[1] * other[1])


def minus(one, other):
    """Return the first ratio less the second one."""
    return lowest(one[0] * other[1] - other[0] * one[1], one[1] * other[1])


def times(one, other):
    """Return the product of two ratios."""
    return lowest(one[0] * other[0], one[1] * other[1])


def over(one, other):
    """Return the first ratio divided by the second one."""
    if other[0] == 0:
        raise BadRatio("zero")
    return lowest(one[0] * other[1], one[1] * other[0])


def negative(one):
    """Return the ratio with the other sign."""
    return (-one[0], one[1])


def sign_of_whole(number):
    """Return -1, 0 or 1: the sign of a whole number."""
    if number == 0:
        return 0
    return 1 if number > 0 else -1


def compare(one, other):
    """Return -1, 0 or 1 as the first ratio is less than, equal to or greater than the second."""
    return sign_of_whole(one[0] * other[1] - other[0] * one[1])


def sign_of(one):
    """Return -1, 0 or 1: the sign of a ratio."""
    return sign_of_whole(one[0])


def sum_of(ratios):
    """Return the sum of a sequence of ratios."""
    total = ZERO
    for one in ratios:
        total = plus(total, one)
    return total


def least_of(ratios):
    """Return the least of at least one ratio."""
    least = ratios[0]
    for one in ratios:
        if compare(one, least) < 0:
            least = one
    return least


def greatest_of(ratios):
    """Return the greatest of at least one ratio."""
    greatest = ratios[0]
    for one in ratios:
        if compare(one, greatest) > 0:
            greatest = one
    return greatest


def whole_text(number):
    """Return the figures of a whole number from 0 on."""
    # Python itself refuses to write numbers of some thousand figures in one go.
    block = 10 ** 64
    parts = []
    while number >= block:
        number, part = divmod(number, block)
        parts.append(str(part).zfill(64))
    parts.append(str(number))
    return "".join(reversed(parts))


def ratio_text(one):
    """Return the text of a ratio, such as 3 or -7/2."""
    top, bottom = one
    sign = "-" if top < 0 else ""
    text = sign + whole_text(abs(top))
    if bottom == 1:
        return text
    return text + "/" + whole_text(bottom)
