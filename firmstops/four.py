"""Four stops with which a work is firm, and the sides on which they can stand."""

from firmstops.errors import BadSides
from firmstops.firm import is_firm
from firmstops.pushes import row_on
from firmstops.ratios import ONE, ZERO, is_sequence, is_whole
from firmstops.somespots import some_firm
from firmstops.stiemke import free_direction
from firmstops.stops import is_stop


def is_four(work, thing):
    """Return whether a thing is a sequence of four side numbers, none less than the one before."""
    if not is_sequence(thing) or len(thing) != 4:
        return False
    if not all([is_whole(side, 0, len(work) - 1) for side in thing]):
        return False
    return all([one <= other for one, other in zip(thing, thing[1:])])


def is_firm_four(work, sides):
    """Return whether the work is firm with some four stops on the sides of a right four."""
    unlike = sorted(list({side: True for side in sides}))
    return free_direction([row_on(work, side, spot) for side in unlike for spot in (ZERO, ONE)]) is None


def can_be_firm(work, sides):
    """Return whether the work is firm with some four stops on these sides."""
    if not is_four(work, sides):
        raise BadSides(sides)
    return is_firm_four(work, sides)


def all_fours(many):
    """Return all fours of so many sides, ascending."""
    return [
        (one, two, three, four)
        for one in range(many) for two in range(one, many) for three in range(two, many) for four in range(three, many)
    ]


def firm_fours(work):
    """Yield all fours that can be firm, ascending."""
    for four in all_fours(len(work)):
        if is_firm_four(work, four):
            yield four


def first_four(work):
    """Return the first four that can be firm; there is one for every work."""
    for four in firm_fours(work):
        return four
    return None


def four_for(work):
    """Return four stops with which the work is firm, on the sides of the first four that can be firm."""
    return some_firm(work, [(side, ZERO, ONE) for side in first_four(work)]).stops


def four_fault(work, stops):
    """Judge four stops: None, or the first word that applies."""
    if not is_sequence(stops) or len(stops) != 4 or not all([is_stop(work, stop) for stop in stops]):
        return "stops"
    if tuple([stop[0] for stop in stops]) != first_four(work):
        return "sides"
    return None if is_firm(work, stops) else "firm"
