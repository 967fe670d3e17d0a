"""Mends: the least selections of a pool of changes behind which all wishes hold."""

from firmstops.changes import change_told, form_told
from firmstops.elimination import index_sets
from firmstops.errors import BadChange
from firmstops.ratios import are_ascending, is_sequence
from firmstops.stops import check_stops
from firmstops.wishes import are_met, check_wishes
from firmstops.works import Work


class Mend:
    """A good selection without another one within it, and the work and stops behind it."""

    def __init__(self, selection, work, stops):
        self.selection = selection
        self.work = work
        self.stops = stops

    def __eq__(self, other):
        return (
            isinstance(other, Mend) and self.selection == other.selection
            and self.work == other.work and self.stops == other.stops
        )


def check_pool(work, pool):
    """Raise BadChange for anything but 1 to 5 changes of right forms."""
    if not is_sequence(pool) or not 1 <= len(pool) <= 5:
        raise BadChange(0, "pool")
    for index, change in enumerate(pool):
        form_told(work, change, index)


def behind_selection(work, stops, pool, selection):
    """Return the couple (work, stops) behind a selection of right changes, or None if it is refused."""
    told = (work, stops)
    for index in selection:
        try:
            told = change_told(told[0], told[1], pool[index], index)
        except BadChange:
            return None
    return told


def all_selections(many):
    """Return all selections of so many changes, those with fewer indices first."""
    return [selection for size in range(many + 1) for selection in index_sets(many, size)]


def outcomes(work, stops, pool, wishes):
    """Return for each selection, in order, whether it is good, and None for one that is refused.

    The stops are right ones; pool and wishes are checked first.
    """
    check_pool(work, pool)
    check_wishes(wishes)
    found = {}
    for selection in all_selections(len(pool)):
        told = behind_selection(work, stops, pool, selection)
        found[selection] = None if told is None else are_met(told[0], told[1], wishes)
    return found


def is_good(told, selection):
    """Return whether a selection is good by the outcomes."""
    return told[selection] is True


def has_good_within(told, selection):
    """Return whether another good selection is within a selection."""
    parts = [tuple([selection[at] for at in part]) for part in all_selections(len(selection))[:-1]]
    return any([is_good(told, part) for part in parts])


def least_good(told):
    """Return the selections of all mends by the outcomes, in order."""
    return [selection for selection in told if is_good(told, selection) and not has_good_within(told, selection)]


def good_selections(work, stops, pool, wishes):
    """Return all selections behind which all wishes hold, those with fewer indices first."""
    told = outcomes(work, check_stops(work, stops), pool, wishes)
    return tuple([selection for selection in told if is_good(told, selection)])


def mend_of(work, stops, pool, selection):
    """Return the Mend of a selection that is not refused."""
    mended, kept = behind_selection(work, stops, pool, selection)
    return Mend(selection, mended, kept)


def least_mends(work, stops, pool, wishes):
    """Return all mends, those with fewer indices first."""
    kept = check_stops(work, stops)
    told = outcomes(work, kept, pool, wishes)
    return tuple([mend_of(work, kept, pool, selection) for selection in least_good(told)])


def spoilers(work, stops, pool, wishes):
    """Return couples (selection, index): each mend with each further change that spoils it."""
    told = outcomes(work, check_stops(work, stops), pool, wishes)
    return tuple([
        (selection, index) for selection in least_good(told) for index in range(len(pool))
        if index not in selection and told[tuple(sorted(selection + (index,)))] is False
    ])


def stops_as_tuples(stops):
    """Return what a Mend tells of its stops, with tuples in the place of lists."""
    return tuple([tuple(stop) if is_sequence(stop) else stop for stop in stops]) if is_sequence(stops) else stops


def mend_word(work, stops, pool, told, mend):
    """Return the first word that applies to one Mend by itself, or None."""
    selection = mend.selection
    if not isinstance(selection, tuple) or not are_ascending(selection, len(pool)):
        return "selection"
    if told[selection] is None:
        return "refused"
    mended, kept = behind_selection(work, stops, pool, selection)
    if not isinstance(mend.work, Work) or mend.work != mended or stops_as_tuples(mend.stops) != kept:
        return "behind"
    if told[selection] is False:
        return "wish"
    return "least" if has_good_within(told, selection) else None


def mends_fault(work, stops, pool, wishes, mends):
    """Judge what least_mends returns: None, or the first word that applies."""
    if not is_sequence(mends) or not all([isinstance(mend, Mend) for mend in mends]):
        return "mends"
    kept = check_stops(work, stops)
    told = outcomes(work, kept, pool, wishes)
    for mend in mends:
        word = mend_word(work, kept, pool, told, mend)
        if word is not None:
            return word
    order = list(told)
    places = [order.index(mend.selection) for mend in mends]
    if any([one >= other for one, other in zip(places, places[1:])]):
        return "order"
    return "missing" if len(mends) < len(least_good(told)) else None
