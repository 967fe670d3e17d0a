"""Tables: rows that bear a target, told by a basis of them, in whole numbers alone."""

from firmstops.elimination import Reduced, columns_of, kernel_rows, product_of_wholes
from firmstops.elimination import as_ratios, combined, scaled_back, solved, whole_row, whole_rows
from firmstops.ratios import ONE, ZERO, lowest, over, times


def first_below(numbers):
    """Return the place of the first number below 0, or None."""
    for place, number in enumerate(numbers):
        if number < 0:
            return place
    return None


class Table:
    """The equations of amounts whose weighted sum of rows is a target, solved for a basis of rows.

    Line k is solved for the amount of row `places[k]`: number j of it, divided by `pivot`, is the
    share of row j in it, the last number that of the target. A line of costs, which has no last
    number for the target, may stand behind.
    Rows and target are made whole first, so all this is told of amounts of the whole rows.
    """

    def __init__(self, rows, target):
        wholes, self.factors = whole_rows(rows)
        aim, self.scale = whole_row(target)
        self.many = len(rows)
        form = Reduced(columns_of(wholes + [aim]), self.many + 1)
        self.lines = form.lines
        self.places = form.places
        self.pivot = form.pivot
        self.keep_pivot_above()

    def keep_pivot_above(self):
        """Change all signs if the pivot is below 0."""
        if self.pivot < 0:
            self.pivot = -self.pivot
            self.lines = [[-number for number in line] for line in self.lines]

    def is_spanned(self):
        """Return whether the target is a weighted sum of the rows at all."""
        return self.many not in self.places

    def exchange(self, at, place):
        """Put a row in the place of the basis row of a line."""
        chosen = self.lines[at]
        head = chosen[place]
        self.lines = [
            line if k == at else combined(line, head, chosen, line[place], self.pivot)
            for k, line in enumerate(self.lines)
        ]
        self.places[at] = place
        self.pivot = head
        self.keep_pivot_above()

    def short_line(self):
        """Return the line with an amount below 0 whose basis row is the first, or None."""
        found = None
        for at, place in enumerate(self.places):
            if self.lines[at][self.many] < 0 and (found is None or place < self.places[found]):
                found = at
        return found

    def tightest_line(self, place):
        """Return the line whose amount first falls to 0 if the amount of a row grows, or None."""
        found = None
        for at in range(len(self.places)):
            if self.lines[at][place] > 0 and (found is None or self.is_tighter(at, found, place)):
                found = at
        return found

    def is_tighter(self, at, other, place):
        """Return whether one line falls to 0 before another one, or with it and has the lesser row."""
        one, two = self.lines[at], self.lines[other]
        lead = one[self.many] * two[place] - two[self.many] * one[place]
        return lead < 0 or (lead == 0 and self.places[at] < self.places[other])

    def basis_amounts(self):
        """Return the amounts of the given rows by which the basis bears the given target."""
        amounts = [ZERO] * self.many
        for at, place in enumerate(self.places):
            share = lowest(self.lines[at][self.many], self.pivot)
            amounts[place] = over(times(share, self.factors[place]), self.scale)
        return tuple(amounts)

    def way_of(self, place):
        """Return the amounts of the given rows, with a sum of zeros, by which a row comes in."""
        way = [0] * self.many
        way[place] = self.pivot
        for at, held in enumerate(self.places):
            way[held] = -self.lines[at][place]
        return scaled_back(as_ratios(way), self.factors)

    def add_costs(self, costs):
        """Put a line behind the others: the cost of each row less what the basis costs in its place."""
        whole, _ = whole_row(scaled_back(costs, self.factors))
        shares = [-whole[place] for place in self.places]
        columns = [[line[j] for line in self.lines] for j in range(self.many)]
        self.lines.append([
            self.pivot * cost + product_of_wholes(shares, column) for cost, column in zip(whole, columns)
        ])


def basis_direction(rows, places, products):
    """Return a direction with told products with the independent rows of a basis."""
    return solved([rows[place] for place in places], products, len(rows[0]))


def direction_off_span(rows, target):
    """Return a plain direction with products 0 with all rows and one below 0 with the target."""
    aim, _ = whole_row(target)
    kernel = kernel_rows(whole_rows(rows)[0], len(aim))
    off = [row for row in kernel if product_of_wholes(row, aim) != 0][0]
    sign = -1 if product_of_wholes(off, aim) > 0 else 1
    return as_ratios([sign * number for number in off])


def direction_against(rows, target, table):
    """Lead a table to amounts from 0 on and return None, or return a plain direction against the target.

    The first row with an amount below 0 leaves, the first row that its line lets comes in: this
    order of indices is what keeps the exchanges from going round for ever.
    """
    if not table.is_spanned():
        return direction_off_span(rows, target)
    at = table.short_line()
    while at is not None:
        place = first_below(table.lines[at][:table.many])
        if place is None:
            products = [ZERO] * len(table.places)
            products[at] = ONE
            return as_ratios(whole_row(basis_direction(rows, table.places, products))[0])
        table.exchange(at, place)
        at = table.short_line()
    return None


def endless_place(table):
    """Lead a table with costs to the least sum and return None, or return the row that has no end."""
    place = first_below(table.lines[-1])
    while place is not None:
        at = table.tightest_line(place)
        if at is None:
            return place
        table.exchange(at, place)
        place = first_below(table.lines[-1])
    return None
