"""Firm works: stops among which only rest is free, and free motions where they are not firm."""

from firmstops.freely import line_direction
from firmstops.linear import kernel_of, plain_of, product_of, rank_of
from firmstops.linearjudges import are_from_zero_on, has_no_sum
from firmstops.motions import REST, centre_of
from firmstops.places import dot_of, place_scaled, quarter_left
from firmstops.pushes import right_rows, rows_of
from firmstops.ratios import ONE, ZERO, is_ratio_row, negative, over, sign_of
from firmstops.stiemke import Balance, balance_of, free_direction


class Firm:
    """Amounts above 0, one for each stop, that are a balance of rows of rank 3."""

    def __init__(self, amounts):
        self.amounts = amounts

    def __eq__(self, other):
        return isinstance(other, Firm) and self.amounts == other.amounts


class Free:
    """A free motion that is not rest."""

    def __init__(self, motion):
        self.motion = motion

    def __eq__(self, other):
        return isinstance(other, Free) and self.motion == other.motion


def is_firm(work, stops):
    """Return whether no motion but rest is free."""
    rows = rows_of(work, stops)
    return len(rows) > 0 and free_direction(rows) is None


def firm_or_free(work, stops):
    """Return Firm with a balance of the rows, or Free with a free motion that is not rest."""
    rows = rows_of(work, stops)
    if len(rows) == 0:
        return Free((ONE, ZERO, ZERO))
    kernel = kernel_of(rows)
    if len(kernel) > 0:
        return Free(kernel[0])
    told = balance_of(rows)
    return Firm(told.amounts) if isinstance(told, Balance) else Free(told.direction)


def firm_word(rows, amounts):
    """Return the first word that applies to amounts that are to show rows to be firm, or None."""
    if not are_from_zero_on(amounts, len(rows)) or any([sign_of(amount) == 0 for amount in amounts]):
        return "amounts"
    if len(rows) == 0:
        return "rank"
    if not has_no_sum(rows, amounts):
        return "sum"
    return None if rank_of(rows) == 3 else "rank"


def motion_word(rows, motion):
    """Return the first word that applies to a thing that is to be a motion free of rows, or None."""
    if not is_ratio_row(motion, 3):
        return "motion"
    return "barred" if any([sign_of(product_of(row, motion)) < 0 for row in rows]) else None


def moving_word(rows, motion):
    """Return the first word that applies to a free motion that is not to be rest, or None."""
    if is_ratio_row(motion, 3) and tuple(motion) == REST:
        return "rest"
    return motion_word(rows, motion)


def firm_fault(work, stops, firm):
    """Judge a Firm: None, or the first word that applies."""
    return firm_word(right_rows(work, stops), firm.amounts)


def free_fault(work, stops, free):
    """Judge a Free: None, or the first word that applies."""
    return moving_word(right_rows(work, stops), free.motion)


def firm_lack(work, stops):
    """Return None if the stops are firm, otherwise what they lack: "rank" or "balance"."""
    rows = rows_of(work, stops)
    if len(rows) == 0 or rank_of(rows) < 3:
        return "rank"
    return "balance" if free_direction(rows) is not None else None


def line_of_row(row):
    """Return the direction of the normal line of a row."""
    return line_direction(plain_of(row[:2]))


def nearest_on_line(row):
    """Return the place of the normal line of a row that is nearest to (0, 0)."""
    normal = row[:2]
    return place_scaled(quarter_left(normal), negative(over(row[2], dot_of(normal, normal))))


def meet_of(work, stops):
    """Return why the rank is below 3: what all normal lines have in common. None if the rank is 3."""
    rows = rows_of(work, stops)
    if len(rows) == 0:
        return ("all",)
    kernel = kernel_of(rows)
    if len(kernel) == 0:
        return None
    if len(kernel) == 2:
        return ("line", nearest_on_line(rows[0]), line_of_row(rows[0]))
    # The one motion that grazes all stops turns about the place where all lines meet.
    if kernel[0][2] == ZERO:
        return ("direction", line_of_row(rows[0]))
    return ("place", centre_of(kernel[0]))
