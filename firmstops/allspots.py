"""What is so for all spots: stops that are firm, held or bear a pull wherever they stand in their stretches."""

from firmstops.firm import Firm, firm_or_free, is_firm
from firmstops.held import Held, held_or_loose
from firmstops.pulls import Pulled, bear_pull
from firmstops.pushes import check_pull
from firmstops.stretches import check_closed, choices_of, chosen_stops


class Ends:
    """A choice of ends, and a motion that shows what does not hold there."""

    def __init__(self, choice, motion):
        self.choice = choice
        self.motion = motion

    def __eq__(self, other):
        return isinstance(other, Ends) and self.choice == other.choice and self.motion == other.motion


class LooseEnds:
    """A choice of ends at which the work is not held, and how it is loose there."""

    def __init__(self, choice, loose):
        self.choice = choice
        self.loose = loose

    def __eq__(self, other):
        return isinstance(other, LooseEnds) and self.choice == other.choice and self.loose == other.loose


def all_firm(work, stretches):
    """Return None if the stops are firm for all spots, otherwise the first Ends at which they are not."""
    kept = check_closed(work, stretches)
    for choice in choices_of(kept):
        told = firm_or_free(work, chosen_stops(kept, choice))
        if not isinstance(told, Firm):
            return Ends(choice, told.motion)
    return None


def loose_choices(work, stretches):
    """Yield all choices of ends at which the stops are not firm, in order."""
    kept = check_closed(work, stretches)
    for choice in choices_of(kept):
        if not is_firm(work, chosen_stops(kept, choice)):
            yield choice


def all_held(work, stretches):
    """Return None if the work is held for all spots, otherwise the first LooseEnds at which it is not."""
    kept = check_closed(work, stretches)
    for choice in choices_of(kept):
        told = held_or_loose(work, chosen_stops(kept, choice))
        if not isinstance(told, Held):
            return LooseEnds(choice, told)
    return None


def all_bear(work, stretches, pull):
    """Return None if a pull is borne for all spots, otherwise the first Ends at which it is not."""
    kept = check_closed(work, stretches)
    told_pull = check_pull(pull)
    for choice in choices_of(kept):
        told = bear_pull(work, chosen_stops(kept, choice), told_pull)
        if isinstance(told, Pulled):
            return Ends(choice, told.motion)
    return None
