"""Changes of a work with stops: stops put, taken and moved, and corners moved."""

from firmstops.errors import BadChange, BadWork
from firmstops.places import is_couple
from firmstops.ratios import is_sequence, is_whole
from firmstops.stops import check_stops, is_inner_spot, is_stop
from firmstops.works import Work

# The words of the forms of a change, each with the number of its entries.
FORMS = {"put": 2, "take": 2, "move": 3, "corner": 3}


def is_of_a_form(change):
    """Return whether a thing has the word of a form and as many entries as this form."""
    if not is_sequence(change) or len(change) == 0 or not isinstance(change[0], str):
        return False
    return FORMS.get(change[0], 0) == len(change)


def form_word(work, change):
    """Return None for a change of a right form, otherwise what is wrong with it."""
    if not is_of_a_form(change):
        return "change"
    if change[0] == "corner":
        if not is_whole(change[1], 0, len(work) - 1):
            return "corner"
        return None if is_couple(change[2]) else "place"
    if not is_stop(work, change[1]):
        return "stop"
    return "spot" if change[0] == "move" and not is_inner_spot(change[2]) else None


def form_told(work, change, index):
    """Raise BadChange, with the index, for a change of no right form."""
    word = form_word(work, change)
    if word is not None:
        raise BadChange(index, word)


def check_form(work, change):
    """Raise BadChange for a change of no right form."""
    form_told(work, change, 0)


def change_kept(change):
    """Return a change of a right form as a tuple."""
    return tuple([tuple(part) if is_sequence(part) else part for part in change])


def put_told(stops, stop, index):
    """Return stops with a further one behind."""
    if len(stops) == 8:
        raise BadChange(index, "many")
    return stops + (stop,)


def place_among(stops, stop, index):
    """Return the index of the first stop that is equal to one."""
    if stop not in stops:
        raise BadChange(index, "absent")
    return stops.index(stop)


def cornered(work, number, place, index):
    """Return the work with a place in the place of a corner."""
    corners = work.corners[:number] + (place,) + work.corners[number + 1:]
    try:
        return Work(corners)
    except BadWork:
        raise BadChange(index, "work") from None


def change_told(work, stops, change, index):
    """Return the couple (work, stops) behind a change of right stops; errors tell the index."""
    form_told(work, change, index)
    kept = change_kept(change)
    if kept[0] == "corner":
        return (cornered(work, kept[1], kept[2], index), stops)
    if kept[0] == "put":
        return (work, put_told(stops, kept[1], index))
    at = place_among(stops, kept[1], index)
    moved = () if kept[0] == "take" else ((kept[1][0], kept[2]),)
    return (work, stops[:at] + moved + stops[at + 1:])


def apply_change(work, stops, change):
    """Return the couple (work, stops) behind a change."""
    return change_told(work, check_stops(work, stops), change, 0)


def apply_changes(work, stops, changes):
    """Return the couple (work, stops) behind 0 to 8 changes, one after another."""
    told = (work, check_stops(work, stops))
    if not is_sequence(changes) or len(changes) > 8:
        raise BadChange(0, "pool")
    for index, change in enumerate(changes):
        told = change_told(told[0], told[1], change, index)
    return told
