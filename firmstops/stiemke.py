"""Balances of rows, free directions, and amounts that bear a target."""

from firmstops.elimination import as_ratios, index_sets, scaled_back, whole_rows
from firmstops.errors import BadNumbers
from firmstops.least import Against
from firmstops.linear import check_numbers, check_rows, kernel_of, plain_of, rank_of, weighted_sum
from firmstops.ratios import ONE, ZERO, negative, plus, sign_of
from firmstops.tables import Table, direction_against


class Balance:
    """Amounts above 0, one for each row, with a weighted sum of zeros."""

    def __init__(self, amounts):
        self.amounts = amounts

    def __eq__(self, other):
        return isinstance(other, Balance) and self.amounts == other.amounts


class Amounts:
    """Lean amounts from 0 on that bear a target."""

    def __init__(self, amounts):
        self.amounts = amounts

    def __eq__(self, other):
        return isinstance(other, Amounts) and self.amounts == other.amounts


def borne_or_against(rows, target):
    """Return Amounts or Against for rows and a target that are right."""
    table = Table(rows, target)
    direction = direction_against(rows, target, table)
    return Amounts(table.basis_amounts()) if direction is None else Against(direction)


def bear_target(rows, target):
    """Return Amounts that bear the target, or a direction Against it."""
    check_rows(rows)
    check_numbers(target, len(rows[0]), "target")
    return borne_or_against(rows, target)


def balance_of(rows):
    """Return a Balance of the rows, or a direction Against it."""
    check_rows(rows)
    # Whole rows have a sum of small numbers, where that of fractions has a great bottom.
    wholes, factors = whole_rows(rows)
    lines = [as_ratios(row) for row in wholes]
    # A balance may be taken so great that each amount is 1 and a rest from 0 on.
    total = weighted_sum(lines, [ONE] * len(lines))
    rest = borne_or_against(lines, tuple([negative(one) for one in total]))
    if isinstance(rest, Against):
        return rest
    return Balance(plain_of(scaled_back([plus(ONE, amount) for amount in rest.amounts], factors)))


def free_direction(rows):
    """Return a plain direction whose products with all rows are from 0 on, or None."""
    kernel = kernel_of(rows)
    if len(kernel) > 0:
        return kernel[0]
    told = balance_of(rows)
    return told.direction if isinstance(told, Against) else None


def spread(amounts, lot, many):
    """Return amounts for all rows from those for the rows of a lot, 0 for the others."""
    row = [ZERO] * many
    for at, amount in zip(lot, amounts):
        row[at] = amount
    return tuple(row)


def lean_amounts(rows, amounts):
    """Return lean amounts with the same weighted sum that are 0 where the given ones are 0."""
    check_rows(rows)
    check_numbers(amounts, len(rows), "amounts")
    if any([sign_of(amount) < 0 for amount in amounts]):
        raise BadNumbers("amounts")
    lot = [at for at, amount in enumerate(amounts) if sign_of(amount) > 0]
    told = borne_or_against([rows[at] for at in lot], weighted_sum(rows, amounts))
    return spread(told.amounts, lot, len(rows))


def lot_amounts(rows, target, lot):
    """Return the amounts above 0 by which the independent rows of a lot bear a target, or None."""
    table = Table([rows[at] for at in lot], target)
    if not table.is_spanned() or len(table.places) < len(lot):
        return None
    return table.basis_amounts() if all([line[-1] > 0 for line in table.lines]) else None


def all_lean(rows, target):
    """Yield all tuples of lean amounts that bear the target, those of fewer rows first."""
    check_rows(rows)
    check_numbers(target, len(rows[0]), "target")
    for size in range(rank_of(rows) + 1):
        for lot in index_sets(len(rows), size):
            amounts = lot_amounts(rows, target, lot)
            if amounts is not None:
                yield spread(amounts, lot, len(rows))
