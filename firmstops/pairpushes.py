"""Pairs among their stops: firm or free, pulls that they bear, and the judges."""

from firmstops.linear import kernel_of, product_of, rank_of
from firmstops.linearjudges import are_from_zero_on, has_no_sum, has_sum
from firmstops.motions import REST
from firmstops.pairs import check_both, right_sixes
from firmstops.places import place_plus, place_scaled
from firmstops.pushes import check_pull
from firmstops.ratios import is_ratio_row, negative, over, plus, sign_of
from firmstops.stiemke import Amounts, Balance, balance_of, bear_target


class PairFirm:
    """Amounts above 0, one for each six, that are a balance of sixes of rank 6."""

    def __init__(self, amounts):
        self.amounts = amounts

    def __eq__(self, other):
        return isinstance(other, PairFirm) and self.amounts == other.amounts


class PairFree:
    """Free motions of both works of a pair, not both rest."""

    def __init__(self, one, other):
        self.one = one
        self.other = other

    def __eq__(self, other):
        return isinstance(other, PairFree) and self.one == other.one and self.other == other.other


class PairPushes:
    """Amounts from 0 on, one for each six, that bear two pulls."""

    def __init__(self, amounts):
        self.amounts = amounts

    def __eq__(self, other):
        return isinstance(other, PairPushes) and self.amounts == other.amounts


class PairPulled:
    """Free motions of both works of a pair whose product with two pulls is above 0."""

    def __init__(self, one, other):
        self.one = one
        self.other = other

    def __eq__(self, other):
        return isinstance(other, PairPulled) and self.one == other.one and self.other == other.other


def pair_verdict(pair, stops_one, stops_other):
    """Return PairFirm with a balance of the sixes, or PairFree with free motions."""
    kept_one, kept_other = check_both(pair, stops_one, stops_other)
    sixes = right_sixes(pair, kept_one, kept_other)
    kernel = kernel_of(sixes)
    if len(kernel) > 0:
        return PairFree(kernel[0][:3], kernel[0][3:])
    told = balance_of(sixes)
    if isinstance(told, Balance):
        return PairFirm(told.amounts)
    return PairFree(told.direction[:3], told.direction[3:])


def pair_bear(pair, stops_one, stops_other, pull_one, pull_other):
    """Return PairPushes with amounts that bear two pulls, or PairPulled with free motions along them."""
    kept_one, kept_other = check_both(pair, stops_one, stops_other)
    pulls = check_pull(pull_one) + check_pull(pull_other)
    told = bear_target(right_sixes(pair, kept_one, kept_other), [negative(number) for number in pulls])
    if isinstance(told, Amounts):
        return PairPushes(told.amounts)
    return PairPulled(told.direction[:3], told.direction[3:])


def touch_place(pair, amounts):
    """Return the place at which one push has the same row as those at both ends, or None."""
    first, second = amounts[-2], amounts[-1]
    total = plus(first, second)
    if sign_of(total) == 0:
        return None
    weighed = place_plus(place_scaled(pair.ends[0], first), place_scaled(pair.ends[1], second))
    return (over(weighed[0], total), over(weighed[1], total))


def are_motions(told):
    """Return whether a thing tells a motion of each work."""
    return is_ratio_row(told.one, 3) and is_ratio_row(told.other, 3)


def six_of(told):
    """Return the six of the motions that a thing tells."""
    return tuple(told.one) + tuple(told.other)


def bars_six(sixes, motions):
    """Return whether some six has a product below 0 with the six of motions."""
    return any([sign_of(product_of(six, motions)) < 0 for six in sixes])


def firm_pair_word(sixes, amounts):
    """Return the first word that applies to amounts that are to show a pair to be firm, or None."""
    if not are_from_zero_on(amounts, len(sixes)) or any([sign_of(amount) == 0 for amount in amounts]):
        return "amounts"
    if not has_no_sum(sixes, amounts):
        return "sum"
    return None if rank_of(sixes) == 6 else "rank"


def free_pair_word(sixes, told):
    """Return the first word that applies to free motions of a pair, or None."""
    if not are_motions(told):
        return "motion"
    if six_of(told) == REST + REST:
        return "rest"
    return "barred" if bars_six(sixes, six_of(told)) else None


def pair_fault(pair, stops_one, stops_other, told):
    """Judge what pair_verdict returns: None, or the first word that applies."""
    sixes = right_sixes(pair, stops_one, stops_other)
    if isinstance(told, PairFirm):
        return firm_pair_word(sixes, told.amounts)
    return free_pair_word(sixes, told) if isinstance(told, PairFree) else "kind"


def pushed_pair_word(sixes, pulls, amounts):
    """Return the first word that applies to amounts that are to bear the six of two pulls, or None."""
    if not are_from_zero_on(amounts, len(sixes)):
        return "amounts"
    return None if has_sum(sixes, amounts, [negative(number) for number in pulls]) else "sum"


def pulled_pair_word(sixes, pulls, told):
    """Return the first word that applies to motions that are to show two pulls not to be borne, or None."""
    if not are_motions(told):
        return "motion"
    if bars_six(sixes, six_of(told)):
        return "barred"
    return None if sign_of(product_of(pulls, six_of(told))) > 0 else "product"


def pair_pull_fault(pair, stops_one, stops_other, pull_one, pull_other, told):
    """Judge what pair_bear returns: None, or the first word that applies."""
    sixes = right_sixes(pair, stops_one, stops_other)
    pulls = tuple(pull_one) + tuple(pull_other)
    if isinstance(told, PairPushes):
        return pushed_pair_word(sixes, pulls, told.amounts)
    return pulled_pair_word(sixes, pulls, told) if isinstance(told, PairPulled) else "kind"
