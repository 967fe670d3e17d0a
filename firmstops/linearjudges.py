"""Judges of balances, of borne targets and of least costs."""

from firmstops.elimination import shared_divisor
from firmstops.least import Endless, Least
from firmstops.linear import product_of, rank_of, weighted_sum
from firmstops.ratios import compare, is_ratio, is_ratio_row, sign_of
from firmstops.stiemke import Amounts, Balance


def is_plain(ratios):
    """Return whether a sequence of ratios is plain."""
    return all([one[1] == 1 for one in ratios]) and shared_divisor([one[0] for one in ratios]) == 1


def has_sum(rows, amounts, target):
    """Return whether the weighted sum of rows is a target."""
    return weighted_sum(rows, amounts) == tuple(target)


def has_no_sum(rows, amounts):
    """Return whether the weighted sum of rows is zeros."""
    return all([sign_of(one) == 0 for one in weighted_sum(rows, amounts)])


def is_lean(rows, amounts):
    """Return whether the rows with an amount above 0 are independent."""
    borne = [row for row, amount in zip(rows, amounts) if sign_of(amount) > 0]
    return len(borne) == 0 or rank_of(borne) == len(borne)


def are_from_zero_on(numbers, many):
    """Return whether a thing is a sequence of just so many ratios from 0 on."""
    return is_ratio_row(numbers, many) and all([sign_of(one) >= 0 for one in numbers])


def amounts_word(rows, target, amounts):
    """Return the first word that applies to lean amounts that are to bear a target, or None."""
    if not are_from_zero_on(amounts, len(rows)):
        return "amounts"
    if not has_sum(rows, amounts, target):
        return "sum"
    return None if is_lean(rows, amounts) else "lean"


def free_word(rows, direction):
    """Return the first word that applies to a plain direction that is to be free of rows, or None."""
    if not is_ratio_row(direction, len(rows[0])):
        return "direction"
    if not is_plain(direction):
        return "plain"
    if any([sign_of(product_of(row, direction)) < 0 for row in rows]):
        return "products"
    return None


def balance_word(rows, amounts):
    """Return the first word that applies to the amounts of a balance, or None."""
    if not are_from_zero_on(amounts, len(rows)) or any([sign_of(one) == 0 for one in amounts]):
        return "amounts"
    if not is_plain(amounts):
        return "plain"
    return None if has_no_sum(rows, amounts) else "sum"


def against_word(rows, target, direction):
    """Return the first word that applies to a direction against a target, or None."""
    word = free_word(rows, direction)
    if word is None and sign_of(product_of(target, direction)) >= 0:
        return "target"
    return word


def endless_word(rows, costs, way):
    """Return the first word that applies to a way on which costs sink without end, or None."""
    if not are_from_zero_on(way, len(rows)):
        return "way"
    if not is_plain(way):
        return "plain"
    if not has_no_sum(rows, way):
        return "rest"
    return None if sign_of(product_of(way, costs)) < 0 else "costs"


def bound_word(rows, target, costs, least):
    """Return the first word that applies to the value and the direction of a least cost, or None."""
    value, direction = least.value, least.direction
    if not is_ratio(value) or value != product_of(least.amounts, costs):
        return "value"
    if not is_ratio_row(direction, len(rows[0])):
        return "direction"
    if any([compare(product_of(row, direction), cost) > 0 for row, cost in zip(rows, costs)]):
        return "products"
    return None if product_of(target, direction) == value else "bound"


def balance_fault(rows, result):
    """Judge what balance_of returns: None, or the first word that applies."""
    if isinstance(result, Balance):
        return balance_word(rows, result.amounts)
    word = free_word(rows, result.direction)
    if word is None and all([sign_of(product_of(row, result.direction)) == 0 for row in rows]):
        return "zero"
    return word


def bear_fault(rows, target, result):
    """Judge what bear_target returns: None, or the first word that applies."""
    if isinstance(result, Amounts):
        return amounts_word(rows, target, result.amounts)
    return against_word(rows, target, result.direction)


def least_fault(rows, target, costs, result):
    """Judge what least_cost returns: None, or the first word that applies."""
    if not isinstance(result, (Least, Endless)):
        return against_word(rows, target, result.direction)
    word = amounts_word(rows, target, result.amounts)
    if word is not None:
        return word
    if isinstance(result, Least):
        return bound_word(rows, target, costs, result)
    return endless_word(rows, costs, result.way)
