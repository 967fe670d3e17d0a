"""Rows of ratios: products, sums, rank, kernel, relations and solutions."""

from firmstops.elimination import as_ratios, columns_of, kernel_rows, scaled_back
from firmstops.elimination import solved, whole_rank, whole_row, whole_rows
from firmstops.errors import BadNumbers, BadRows
from firmstops.ratios import is_ratio_row, is_sequence, sum_of, times


def check_rows(rows):
    """Raise BadRows for anything but 1 to 24 rows, all of the same 1 to 12 ratios in number."""
    if not is_sequence(rows) or not 1 <= len(rows) <= 24:
        raise BadRows()
    if not is_sequence(rows[0]) or not 1 <= len(rows[0]) <= 12:
        raise BadRows()
    if not all([is_ratio_row(row, len(rows[0])) for row in rows]):
        raise BadRows()


def check_numbers(numbers, many, what):
    """Raise BadNumbers for anything but a sequence of just so many ratios."""
    if not is_ratio_row(numbers, many):
        raise BadNumbers(what)


def product_of(row, direction):
    """Return the sum of the products of the ratios at the same place."""
    return sum_of([times(one, other) for one, other in zip(row, direction)])


def weighted_sum(rows, amounts):
    """Return the tuple of sums of amount times row."""
    check_rows(rows)
    check_numbers(amounts, len(rows), "amounts")
    return tuple([product_of(column, amounts) for column in columns_of(rows)])


def plain_of(ratios):
    """Return the plain tuple that is the ratios times one ratio above 0."""
    return as_ratios(whole_row(ratios)[0])


def rank_of(rows):
    """Return the greatest number of independent rows."""
    check_rows(rows)
    return whole_rank(whole_rows(rows)[0], len(rows[0]))


def kernel_of(rows):
    """Return the plain directions, one for each led place, that span all with products 0."""
    check_rows(rows)
    kernel = kernel_rows(whole_rows(rows)[0], len(rows[0]))
    return tuple([as_ratios(row) for row in kernel])


def relations_of(rows):
    """Return the plain amounts, one tuple for each led row, that span all with a sum of zeros."""
    check_rows(rows)
    wholes, factors = whole_rows(rows)
    kernel = kernel_rows(columns_of(wholes), len(rows))
    return tuple([plain_of(scaled_back(as_ratios(row), factors)) for row in kernel])


def solve_products(rows, products):
    """Return the direction with told products that is 0 at all led places, or None."""
    check_rows(rows)
    check_numbers(products, len(rows), "products")
    return solved(rows, products, len(rows[0]))
