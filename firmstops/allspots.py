"""What is so for all spots: stops that are firm, held or bear a pull wherever they stand in their stretches."""

from firmstops.clasps import are_firm_twists, are_held_twists, clasp_lots, normals_of
from firmstops.firm import firm_or_free
from firmstops.freely import cone_shape
from firmstops.held import held_or_loose
from firmstops.pulls import Pulled, bear_pull
from firmstops.pushes import check_pull
from firmstops.ratios import sign_of, sum_of, times
from firmstops.stretches import check_closed, choices_of, chosen_stops, end_couples


class Ends:
    """A choice of ends, and a motion that shows what does not hold there."""

    def __init__(self, choice, motion):
        self.choice = choice
        self.motion = motion

    def __eq__(self, other):
        return isinstance(other, Ends) and self.choice == other.choice and self.motion == other.motion


class LooseEnds:
    """A choice of ends at which the work is not held, and how it is loose there."""

    def __init__(self, choice, loose):
        self.choice = choice
        self.loose = loose

    def __eq__(self, other):
        return isinstance(other, LooseEnds) and self.choice == other.choice and self.loose == other.loose


def clasp_ends(work, stretches):
    """Return for each clasp of stops within stretches its parts, a list of (index, (low, high)).

    The numbers tell what the stop of this index adds to the twist at the low end and at the high
    end. Normals alone make a clasp, so the same ones are there at all choices of ends. The list is
    empty if some slide is free.
    """
    normals = normals_of(work, [stretch[:2] for stretch in stretches])
    if cone_shape(normals) is not None:
        return []
    couples = end_couples(work, stretches)
    return [
        [(at, [times(amount, row[2]) for row in couples[at]]) for at, amount in zip(indices, amounts)]
        for indices, amounts in clasp_lots(normals)
    ]


def twist_signs(clasps, choice):
    """Return the signs of the twists of clasps, told by their parts, at a choice of ends."""
    return [sign_of(sum_of([ends[choice[at]] for at, ends in parts])) for parts in clasps]


def is_firm_at(clasps, choice):
    """Return whether the stops are firm at a choice of ends."""
    return are_firm_twists(twist_signs(clasps, choice))


def is_held_at(clasps, choice):
    """Return whether the work is held at a choice of ends."""
    return are_held_twists(twist_signs(clasps, choice))


def all_firm(work, stretches):
    """Return None if the stops are firm for all spots, otherwise the first Ends at which they are not."""
    kept = check_closed(work, stretches)
    clasps = clasp_ends(work, kept)
    for choice in choices_of(kept):
        if not is_firm_at(clasps, choice):
            return Ends(choice, firm_or_free(work, chosen_stops(kept, choice)).motion)
    return None


def loose_choices(work, stretches):
    """Yield all choices of ends at which the stops are not firm, in order."""
    kept = check_closed(work, stretches)
    clasps = clasp_ends(work, kept)
    for choice in choices_of(kept):
        if not is_firm_at(clasps, choice):
            yield choice


def all_held(work, stretches):
    """Return None if the work is held for all spots, otherwise the first LooseEnds at which it is not."""
    kept = check_closed(work, stretches)
    clasps = clasp_ends(work, kept)
    for choice in choices_of(kept):
        if not is_held_at(clasps, choice):
            return LooseEnds(choice, held_or_loose(work, chosen_stops(kept, choice)))
    return None


def all_bear(work, stretches, pull):
    """Return None if a pull is borne for all spots, otherwise the first Ends at which it is not."""
    kept = check_closed(work, stretches)
    told_pull = check_pull(pull)
    for choice in choices_of(kept):
        told = bear_pull(work, chosen_stops(kept, choice), told_pull)
        if isinstance(told, Pulled):
            return Ends(choice, told.motion)
    return None
