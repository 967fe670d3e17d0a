"""Amounts that bear a target with the least cost."""

from firmstops.linear import check_numbers, check_rows, plain_of, product_of
from firmstops.tables import Table, basis_direction, direction_against, endless_place


class Least:
    """Lean amounts of the least cost, and a direction that shows that no cost is less."""

    def __init__(self, value, amounts, direction):
        self.value = value
        self.amounts = amounts
        self.direction = direction

    def __eq__(self, other):
        return (
            isinstance(other, Least) and self.value == other.value
            and self.amounts == other.amounts and self.direction == other.direction
        )


class Endless:
    """Lean amounts, and a way on which the costs sink without end."""

    def __init__(self, amounts, way):
        self.amounts = amounts
        self.way = way

    def __eq__(self, other):
        return isinstance(other, Endless) and self.amounts == other.amounts and self.way == other.way


class Against:
    """A direction that shows that a target is not borne, or that rows have no balance."""

    def __init__(self, direction):
        self.direction = direction

    def __eq__(self, other):
        return isinstance(other, Against) and self.direction == other.direction


def least_cost(rows, target, costs):
    """Return Least, Against or Endless: the least sum of amount times cost that bears the target."""
    check_rows(rows)
    check_numbers(target, len(rows[0]), "target")
    check_numbers(costs, len(rows), "costs")
    table = Table(rows, target)
    direction = direction_against(rows, target, table)
    if direction is not None:
        return Against(direction)
    table.add_costs(costs)
    place = endless_place(table)
    amounts = table.basis_amounts()
    if place is not None:
        return Endless(amounts, plain_of(table.way_of(place)))
    bound = basis_direction(rows, table.places, [costs[at] for at in table.places])
    return Least(product_of(amounts, costs), amounts, bound)
