"""Whole rows and their reduction, in whole numbers alone."""

from itertools import combinations
from math import gcd, lcm

from firmstops.ratios import ONE, ZERO, lowest, times


def shared_divisor(row):
    """Return the greatest whole number that divides all whole numbers of a row, 0 for zeros."""
    shared = 0
    for number in row:
        shared = gcd(shared, number)
    return shared


def whole_row(ratios):
    """Return (row, factor): whole numbers without a common divisor, the ratios times a factor above 0."""
    bottom = 1
    for one in ratios:
        bottom = lcm(bottom, one[1])
    row = [one[0] * (bottom // one[1]) for one in ratios]
    shared = shared_divisor(row)
    if shared == 0:
        return (row, ONE)
    return ([number // shared for number in row], lowest(bottom, shared))


def whole_rows(rows):
    """Return the whole rows of several rows, and the factors that made them."""
    pairs = [whole_row(row) for row in rows]
    return ([pair[0] for pair in pairs], [pair[1] for pair in pairs])


def as_ratios(row):
    """Return whole numbers as a tuple of ratios."""
    return tuple([(number, 1) for number in row])


def columns_of(rows):
    """Return the columns of at least one row."""
    return [list(column) for column in zip(*rows)]


def product_of_wholes(row, other):
    """Return the sum of the products of whole numbers at the same place."""
    return sum([one * two for one, two in zip(row, other)])


def combined(row, by, other, less, divisor):
    """Return by * row - less * other, divided by a number that divides all of it."""
    return [(by * one - less * two) // divisor for one, two in zip(row, other)]


def first_place(row):
    """Return the place of the first number of a row that is not 0, or None."""
    for place, number in enumerate(row):
        if number != 0:
            return place
    return None


class Reduced:
    """Whole rows made reduced: line k has `pivot` at place `places[k]`, the other lines have 0 there.

    The lines, divided by the pivot, are the reduced echelon form but for their order. All numbers
    are determinants of the given rows, so no division in the making leaves a rest.
    """

    def __init__(self, rows, width):
        self.lines = []
        self.places = []
        self.pivot = 1
        for row in rows:
            if len(self.places) < width:
                self.take(row)

    def rest_of(self, row):
        """Return a row times the pivot, less its part that is made of the lines."""
        rest = [self.pivot * number for number in row]
        for place, line in zip(self.places, self.lines):
            part = row[place]
            if part != 0:
                rest = [number - part * other for number, other in zip(rest, line)]
        return rest

    def take(self, row):
        """Take a further row in, unless it is made of the rows taken before."""
        rest = self.rest_of(row)
        place = first_place(rest)
        if place is None:
            return
        head = rest[place]
        self.lines = [combined(line, head, rest, line[place], self.pivot) for line in self.lines]
        self.lines.append(rest)
        self.places.append(place)
        self.pivot = head


def whole_rank(rows, width):
    """Return the rank of whole rows."""
    return len(Reduced(rows, width).places)


def kernel_row(form, led, width):
    """Return the whole row of the kernel that is above 0 at one led place and 0 at the others."""
    row = [0] * width
    row[led] = form.pivot
    for place, line in zip(form.places, form.lines):
        row[place] = -line[led]
    shared = shared_divisor(row)
    if form.pivot < 0:
        shared = -shared
    return [number // shared for number in row]


def kernel_rows(rows, width):
    """Return the whole rows of the kernel, one for each led place, in ascending order of these."""
    form = Reduced(rows, width)
    return [kernel_row(form, led, width) for led in range(width) if led not in form.places]


def solved(rows, products, width):
    """Return the direction with told products that is 0 at all led places, or None.

    The products stand last in the rows that are reduced; they must not get a place there.
    """
    wholes, _ = whole_rows([tuple(row) + (product,) for row, product in zip(rows, products)])
    form = Reduced(wholes, width + 1)
    if width in form.places:
        return None
    direction = [ZERO] * width
    for place, line in zip(form.places, form.lines):
        direction[place] = lowest(line[width], form.pivot)
    return tuple(direction)


def scaled_back(row, factors):
    """Return amounts of rows from amounts of their whole rows."""
    return tuple([times(number, factor) for number, factor in zip(row, factors)])


def index_sets(many, size):
    """Return all sets of so many of the indices below a number, each ascending, in their order."""
    return list(combinations(range(many), int(size)))
