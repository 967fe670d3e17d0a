"""Bounds of amounts: which pulls stops bear within them, and how great the bounds must be."""

from firmstops.elimination import as_ratios, index_sets, kernel_rows, product_of_wholes, shared_divisor
from firmstops.elimination import whole_row, whole_rows
from firmstops.errors import BadBounds
from firmstops.linear import product_of
from firmstops.pulls import NO_PULL, Pulled, Pushes, balances_pull, bear_pull, pulled_word
from firmstops.pushes import check_pull, right_rows, rows_of
from firmstops.ratios import ONE, ZERO, compare, greatest_of, is_ratio, is_ratio_row, is_sequence, lowest
from firmstops.ratios import negative, over, plus, sign_of, sum_of, times
from firmstops.spans import FROM_ZERO_ON, range_under


class Overborne:
    """A motion whose product with a pull is above the strength of the stops against it."""

    def __init__(self, motion):
        self.motion = motion

    def __eq__(self, other):
        return isinstance(other, Overborne) and self.motion == other.motion


class Strain:
    """The least multiple of bounds within which a pull is, amounts within it, and a motion that needs it."""

    def __init__(self, multiple, amounts, motion):
        self.multiple = multiple
        self.amounts = amounts
        self.motion = motion

    def __eq__(self, other):
        return (
            isinstance(other, Strain) and self.multiple == other.multiple
            and self.amounts == other.amounts and self.motion == other.motion
        )


def check_bounds(bounds, many):
    """Return bounds, one ratio above 0 for each of so many stops, as a tuple."""
    if not is_sequence(bounds) or len(bounds) != many:
        raise BadBounds(0, "many")
    for index, bound in enumerate(bounds):
        if not is_ratio(bound) or sign_of(bound) <= 0:
            raise BadBounds(index, "bound")
    return tuple(bounds)


def crossed(one, other):
    """Return the whole numbers that have the product 0 with two rows of three whole numbers."""
    (a, b, c), (d, e, f) = one, other
    return [b * f - c * e, c * d - a * f, a * e - b * d]


def wall_motions(lines):
    """Return the plain motions, ascending whole numbers, along which whole rows with bounds can be overborne."""
    some = lines + kernel_rows(lines, 3)
    found = {}
    for one, other in index_sets(len(some), 2):
        motion = crossed(some[one], some[other])
        shared = shared_divisor(motion)
        if shared != 0:
            found[tuple([number // shared for number in motion])] = True
            found[tuple([-number // shared for number in motion])] = True
    return sorted(list(found))


def whole_strength(lines, caps, motion):
    """Return the strength of whole rows with whole bounds against a whole motion."""
    rates = [product_of_wholes(line, motion) for line in lines]
    return sum([-cap * rate for cap, rate in zip(caps, rates) if rate < 0])


def strength_of(rows, bounds, motion):
    """Return the strength of rows against a motion: what their bounds do where they bar it."""
    rates = [product_of(row, motion) for row in rows]
    return sum_of([negative(times(bound, rate)) for bound, rate in zip(bounds, rates) if sign_of(rate) < 0])


def bounds_of_wholes(bounds, factors):
    """Return the bounds of the whole rows that are rows times factors."""
    return [over(bound, factor) for bound, factor in zip(bounds, factors)]


def walls_of(work, stops, bounds):
    """Return couples (motion, strength) that decide which pulls stops bear within bounds."""
    rows = rows_of(work, stops)
    lines, factors = whole_rows(rows)
    caps, scale = whole_row(bounds_of_wholes(check_bounds(bounds, len(rows)), factors))
    return tuple([
        (as_ratios(motion), over((whole_strength(lines, caps, motion), 1), scale)) for motion in wall_motions(lines)
    ])


class Load:
    """Whole rows with bounds and a pull: the bounds and the pull are made whole by one number `scale`."""

    def __init__(self, lines, bounds, pull):
        numbers, self.scale = whole_row(tuple(bounds) + tuple(pull))
        self.lines = lines
        self.caps = numbers[:len(lines)]
        self.pull = numbers[len(lines):]

    def walls(self):
        """Return triples (motion, strength, product of the pull), all in whole numbers of this load."""
        return [
            (motion, whole_strength(self.lines, self.caps, motion), product_of_wholes(self.pull, motion))
            for motion in wall_motions(self.lines)
        ]


def load_of(rows, bounds, pull):
    """Return the Load of rows with bounds and a pull."""
    lines, factors = whole_rows(rows)
    return Load(lines, bounds_of_wholes(bounds, factors), pull)


def first_amount(line, load):
    """Return the least amount of a whole row with which others, loaded so, bear the rest within their bounds."""
    limits = [
        ((product_of_wholes(line, motion), 1), (strength - product, 1)) for motion, strength, product in load.walls()
    ]
    return over(range_under(limits + [FROM_ZERO_ON])[0], load.scale)


def first_amounts(rows, bounds, pull):
    """Return the amounts within bounds by which rows bear a pull, the first one least, then the second, .."""
    lines, factors = whole_rows(rows)
    caps = bounds_of_wholes(bounds, factors)
    amounts, rest = [], pull
    for at, line in enumerate(lines):
        amount = first_amount(line, Load(lines[at + 1:], caps[at + 1:], rest))
        rest = [plus(number, times(amount, (part, 1))) for number, part in zip(rest, line)]
        amounts.append(times(amount, factors[at]))
    return tuple(amounts)


def within_bounds(work, stops, pull, bounds):
    """Return Pushes with the first amounts within bounds that bear a pull, or Overborne."""
    rows = rows_of(work, stops)
    kept = check_pull(pull)
    limits = check_bounds(bounds, len(rows))
    for motion, strength, product in load_of(rows, limits, kept).walls():
        if product > strength:
            return Overborne(as_ratios(motion))
    return Pushes(first_amounts(rows, limits, kept))


def strained(rows, bounds, pull):
    """Return the Strain of a borne pull that is not the rest pull."""
    # A borne pull has products above 0 only with motions against which there is some strength.
    needs = [
        (lowest(product, strength), motion) for motion, strength, product in load_of(rows, bounds, pull).walls()
        if product > 0
    ]
    multiple = greatest_of([need for need, _ in needs])
    tightest = [motion for need, motion in needs if need == multiple][0]
    grown = [times(multiple, bound) for bound in bounds]
    return Strain(multiple, first_amounts(rows, grown, pull), as_ratios(tightest))


def least_multiple(work, stops, pull, bounds):
    """Return the Strain of a pull: the least multiple of bounds within which it is, or Pulled."""
    rows = rows_of(work, stops)
    kept = check_pull(pull)
    limits = check_bounds(bounds, len(rows))
    if kept == NO_PULL:
        return Strain(ZERO, (ZERO,) * len(rows), None)
    told = bear_pull(work, stops, kept)
    return told if isinstance(told, Pulled) else strained(rows, limits, kept)


def greatest_push(work, stops, pull):
    """Return the least possible greatest amount by which stops bear a pull, or None."""
    rows = rows_of(work, stops)
    told = least_multiple(work, stops, check_pull(pull), (ONE,) * len(rows))
    return told.multiple if isinstance(told, Strain) else None


def strained_amounts_word(rows, pull, bounds, strain):
    """Return the first word that applies to the multiple and the amounts of a Strain, or None."""
    multiple, amounts = strain.multiple, strain.amounts
    if not is_ratio(multiple) or sign_of(multiple) < 0:
        return "multiple"
    if not is_ratio_row(amounts, len(rows)):
        return "amounts"
    if any([sign_of(amount) < 0 for amount in amounts]):
        return "below"
    if any([compare(amount, times(multiple, bound)) > 0 for amount, bound in zip(amounts, bounds)]):
        return "above"
    return None if balances_pull(rows, pull, amounts) else "sum"


def strained_motion_word(rows, pull, bounds, strain):
    """Return the first word that applies to the motion of a Strain, or None."""
    motion = strain.motion
    if (motion is None) != (tuple(pull) == NO_PULL):
        return "motion"
    if motion is None:
        return None
    if not is_ratio_row(motion, 3):
        return "motion"
    product = product_of(pull, motion)
    reached = times(strain.multiple, strength_of(rows, bounds, motion))
    return None if sign_of(product) > 0 and product == reached else "product"


def overborne_word(rows, pull, bounds, motion):
    """Return the first word that applies to a motion that is to show a pull to be beyond bounds, or None."""
    if not is_ratio_row(motion, 3):
        return "motion"
    over_it = compare(product_of(pull, motion), strength_of(rows, bounds, motion)) > 0
    return None if over_it else "product"


def strain_fault(work, stops, pull, bounds, result):
    """Judge a Strain, an Overborne or a Pulled: None, or the first word that applies."""
    rows = right_rows(work, stops)
    if isinstance(result, Strain):
        word = strained_amounts_word(rows, pull, bounds, result)
        return strained_motion_word(rows, pull, bounds, result) if word is None else word
    if isinstance(result, Overborne):
        return overborne_word(rows, pull, bounds, result.motion)
    return pulled_word(rows, pull, result.motion) if isinstance(result, Pulled) else "result"
