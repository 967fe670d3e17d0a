"""Judges of what is said about all spots and about some spots."""

from firmstops.allspots import all_bear, all_firm
from firmstops.firm import firm_word, moving_word
from firmstops.linearjudges import are_from_zero_on
from firmstops.pulls import balances_pull, pulled_word
from firmstops.pushes import right_rows
from firmstops.ratios import compare, is_ratio, is_sequence, is_whole
from firmstops.somespots import Placed
from firmstops.stretches import chosen_stops, is_choice, right_end_rows


def chosen_rows(work, stretches, choice):
    """Return the rows of the stops at the chosen ends."""
    return right_rows(work, chosen_stops(stretches, choice))


def all_firm_fault(work, stretches, result):
    """Judge what all_firm returns: None, or the first word that applies."""
    if result is None:
        return "choice" if all_firm(work, stretches) is not None else None
    if not is_choice(result.choice, len(stretches)):
        return "choice"
    return moving_word(chosen_rows(work, stretches, result.choice), result.motion)


def all_bear_fault(work, stretches, pull, result):
    """Judge what all_bear returns: None, or the first word that applies."""
    if result is None:
        return "choice" if all_bear(work, stretches, pull) is not None else None
    if not is_choice(result.choice, len(stretches)):
        return "choice"
    return pulled_word(chosen_rows(work, stretches, result.choice), pull, result.motion)


def is_stop_on(thing, side):
    """Return whether a thing is a sequence of a whole number, equal to a side, and a ratio."""
    return is_sequence(thing) and len(thing) == 2 and is_whole(thing[0], side, side) and is_ratio(thing[1])


def are_stops_on(thing, stretches):
    """Return whether a thing is a sequence of one stop on the side of each stretch."""
    if not is_sequence(thing) or len(thing) != len(stretches):
        return False
    return all([is_stop_on(stop, side) for stop, (side, _, _) in zip(thing, stretches)])


def are_within(stops, stretches, least):
    """Return whether compare tells each spot to be off both ends by a least sign: 1 strictly, 0 ends let in."""
    return all([
        compare(spot, low) >= least and compare(high, spot) >= least
        for (_, spot), (_, low, high) in zip(stops, stretches)
    ])


def some_firm_fault(work, stretches, result):
    """Judge what some_firm returns: None, or the first word that applies."""
    if not isinstance(result, Placed):
        return moving_word(right_end_rows(work, stretches), result.motion)
    if not are_stops_on(result.stops, stretches):
        return "stops"
    if not are_within(result.stops, stretches, 1):
        return "spot"
    return firm_word(right_rows(work, result.stops), result.amounts)


def some_bear_fault(work, stretches, pull, result):
    """Judge what some_bear returns: None, or the first word that applies."""
    if not isinstance(result, Placed):
        return pulled_word(right_end_rows(work, stretches), pull, result.motion)
    if not are_stops_on(result.stops, stretches):
        return "stops"
    if not are_within(result.stops, stretches, 0):
        return "spot"
    if not are_from_zero_on(result.amounts, len(stretches)):
        return "amounts"
    return None if balances_pull(right_rows(work, result.stops), pull, result.amounts) else "sum"
