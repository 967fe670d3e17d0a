"""Edge motions: the motions that decide about all pulls."""

from firmstops.edges import edges_of
from firmstops.linear import kernel_of
from firmstops.motions import opposite_motion
from firmstops.pushes import rows_of
from firmstops.ratios import ONE, ZERO


def grazing_motions(rows):
    """Return the motions of the kernel of rows, those along the axes and about (0, 0) for no rows."""
    if len(rows) == 0:
        return ((ONE, ZERO, ZERO), (ZERO, ONE, ZERO), (ZERO, ZERO, ONE))
    return kernel_of(rows)


def motions_about(rows):
    """Return the plain motions, ascending, whose sums are all motions that are free of rows of stops."""
    kernel = grazing_motions(rows)
    both_ways = kernel + tuple([opposite_motion(motion) for motion in kernel])
    found = both_ways + edges_of(rows + both_ways)
    # The numbers are whole, so their tops tell the order.
    tops = sorted([[number[0] for number in motion] for motion in found])
    return tuple([tuple([(top, 1) for top in row]) for row in tops])


def edge_motions(work, stops):
    """Return the plain motions, ascending, whose sums are all free motions."""
    return motions_about(rows_of(work, stops))
