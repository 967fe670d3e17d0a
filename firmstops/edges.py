"""The edges of the directions that are free of rows of full rank."""

from firmstops.elimination import as_ratios, index_sets, kernel_rows, product_of_wholes, whole_rank, whole_rows
from firmstops.errors import LowRank
from firmstops.linear import check_rows


def unlike_rows(wholes):
    """Return the whole rows that are not all zeros, each of equal ones once."""
    kept = {tuple(row): True for row in wholes if any(row)}
    return [list(row) for row in kept]


def free_way(direction, wholes):
    """Return a direction or its opposite as a tuple, the one that is free of the rows, or None."""
    products = [product_of_wholes(row, direction) for row in wholes]
    if all([product >= 0 for product in products]):
        return tuple(direction)
    if all([product <= 0 for product in products]):
        return tuple([-number for number in direction])
    return None


def edges_of(rows):
    """Return the plain free directions, ascending, whose sums are all free directions."""
    check_rows(rows)
    width = len(rows[0])
    wholes = unlike_rows(whole_rows(rows)[0])
    rank = whole_rank(wholes, width)
    if rank < width:
        raise LowRank(rank)
    found = {}
    for lot in index_sets(len(wholes), width - 1):
        kernel = kernel_rows([wholes[at] for at in lot], width)
        if len(kernel) == 1:
            edge = free_way(kernel[0], wholes)
            if edge is not None:
                found[edge] = True
    return tuple([as_ratios(edge) for edge in sorted(list(found))])
