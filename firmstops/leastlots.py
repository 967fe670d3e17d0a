"""Lots of stops that are enough for an aim, stops that can be spared, and stops that may be lost."""

from firmstops.clasps import are_firm_twists, are_held_twists, clasps_of, normals_of
from firmstops.elimination import index_sets
from firmstops.errors import BadAim, BadCount
from firmstops.firm import is_firm
from firmstops.freely import cone_shape
from firmstops.held import is_held
from firmstops.ratios import is_whole, sign_of
from firmstops.stops import check_stops


def check_aim(aim):
    """Raise BadAim for anything but "firm" or "held"."""
    if not isinstance(aim, str) or aim not in ("firm", "held"):
        raise BadAim(aim)


def has_aim(work, stops, aim):
    """Return whether stops have an aim: whether the work is firm with them, or held by them."""
    kept = check_stops(work, stops)
    check_aim(aim)
    return is_firm(work, kept) if aim == "firm" else is_held(work, kept)


class Lots:
    """Right stops with their clasps, of which those within a lot tell whether it has an aim."""

    def __init__(self, work, stops, aim):
        self.normals = normals_of(work, stops)
        self.twists = [(clasp.indices, sign_of(clasp.twist)) for clasp in clasps_of(work, stops)]
        self.aim = aim

    def have(self, lot):
        """Return whether the stops of a lot have the aim."""
        if cone_shape([self.normals[at] for at in lot]) is not None:
            return False
        signs = [sign for indices, sign in self.twists if all([at in lot for at in indices])]
        return are_firm_twists(signs) if self.aim == "firm" else are_held_twists(signs)

    def have_without(self, lost):
        """Return whether the stops that are not in a lot have the aim."""
        return self.have([at for at in range(len(self.normals)) if at not in lost])


def least_lots(work, candidates, aim):
    """Return all lots that have an aim while no part of them has it, those of fewer stops first."""
    kept = check_stops(work, candidates)
    check_aim(aim)
    lots = Lots(work, kept, aim)
    found = []
    for size in range(len(kept) + 1):
        for lot in index_sets(len(kept), size):
            # A lot around one that has the aim has it, too, but is not least.
            around = any([all([at in lot for at in part]) for part in found])
            if not around and lots.have(lot):
                found.append(lot)
    return tuple(found)


def spare_stops(work, stops, aim):
    """Return the ascending indices of the stops without which the others have an aim."""
    kept = check_stops(work, stops)
    check_aim(aim)
    lots = Lots(work, kept, aim)
    return tuple([at for at in range(len(kept)) if lots.have_without((at,))])


def first_lost(lots, many):
    """Return the first lot of so many indices without which the others lack the aim, or None."""
    for lot in index_sets(len(lots.normals), many):
        if not lots.have_without(lot):
            return lot
    return None


def lost_lot(work, stops, lost=1, *, aim="firm"):
    """Return the first lot of so many stops without which the others lack an aim, or None."""
    kept = check_stops(work, stops)
    if not is_whole(lost, 0, 8):
        raise BadCount(lost)
    check_aim(aim)
    return first_lost(Lots(work, kept, aim), min(lost, len(kept)))


def most_lost(work, stops, aim):
    """Return how many stops may be lost, whichever they are, and the aim be kept; None if it is not there."""
    kept = check_stops(work, stops)
    check_aim(aim)
    lots = Lots(work, kept, aim)
    most = None
    for many in range(len(kept) + 1):
        if first_lost(lots, many) is not None:
            return most
        most = many
    return most
