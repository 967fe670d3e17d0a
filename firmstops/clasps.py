"""Clasps: two or three stops whose normals are in balance, and how far a work may swing in them."""

from firmstops.elimination import index_sets
from firmstops.linear import product_of, relations_of
from firmstops.linearjudges import are_from_zero_on, has_no_sum, is_plain
from firmstops.motions import check_way
from firmstops.pushes import right_rows
from firmstops.ratios import ZERO, are_ascending, least_of, negative, over, sign_of
from firmstops.stops import check_stops


class Clasp:
    """Two or three stops whose normals have a balance, while those of no fewer of them have one."""

    def __init__(self, indices, amounts, twist, span):
        self.indices = indices
        self.amounts = amounts
        self.twist = twist
        self.span = span

    def __eq__(self, other):
        return (
            isinstance(other, Clasp) and self.indices == other.indices and self.amounts == other.amounts
            and self.twist == other.twist and self.span == other.span
        )


def clasp_amounts(normals):
    """Return the plain amounts of two or three normals that make a clasp, or None."""
    relations = relations_of(normals)
    # With a second relation some fewer normals have a balance, or none have.
    if len(relations) != 1 or any([sign_of(amount) <= 0 for amount in relations[0]]):
        return None
    return relations[0]


def clasp_lots(normals):
    """Return couples (indices, amounts) for all clasps of normals: those of two, then those of three."""
    found = []
    for lot in index_sets(len(normals), 2) + index_sets(len(normals), 3):
        amounts = clasp_amounts([normals[at] for at in lot])
        if amounts is not None:
            found.append((lot, amounts))
    return found


def normals_of(work, stops):
    """Return the normals of the sides of stops."""
    return [work.normals[side] for side, _ in stops]


def twist_of(rows, indices, amounts):
    """Return the sum of amount times the third number of the row."""
    return product_of([rows[at][2] for at in indices], amounts)


def span_of(work, stops, indices, amounts):
    """Return the sum of amount times the value of one place at the stop's side."""
    return product_of([work.value_at(stops[at][0], work.corners[0]) for at in indices], amounts)


def are_firm_twists(signs):
    """Return whether clasps with these signs of their twists make a work firm that no slide frees."""
    return -1 in signs and 1 in signs


def are_held_twists(signs):
    """Return whether clasps with these signs of their twists hold a work that no slide frees."""
    return 0 in signs or are_firm_twists(signs)


def clasps_of(work, stops):
    """Yield all clasps of stops: those of two stops before those of three."""
    kept = check_stops(work, stops)
    rows = right_rows(work, kept)
    for indices, amounts in clasp_lots(normals_of(work, kept)):
        yield Clasp(indices, amounts, twist_of(rows, indices, amounts), span_of(work, kept, indices, amounts))


def has_lesser_clasp(normals):
    """Return whether two of three normals have a balance of their own."""
    return len(normals) == 3 and any([len(lot) == 2 for lot, _ in clasp_lots(normals)])


def clasp_fault(work, stops, clasp):
    """Judge a Clasp: None, or the first word that applies."""
    if not are_ascending(clasp.indices, len(stops)) or not 2 <= len(clasp.indices) <= 3:
        return "indices"
    amounts = clasp.amounts
    if not are_from_zero_on(amounts, len(clasp.indices)) or any([sign_of(amount) == 0 for amount in amounts]):
        return "amounts"
    if not is_plain(amounts):
        return "plain"
    normals = normals_of(work, [stops[at] for at in clasp.indices])
    if not has_no_sum(normals, amounts):
        return "balance"
    if has_lesser_clasp(normals):
        return "least"
    if clasp.twist != twist_of(right_rows(work, stops), clasp.indices, amounts):
        return "twist"
    return "span" if clasp.span != span_of(work, stops, clasp.indices, amounts) else None


def widest_swing(work, stops, way):
    """Return the greatest swing of this way to which some placed work has no stop past its own side.

    None if there is no clasp, 0 if there is no such swing.
    """
    kept = check_stops(work, stops)
    to_left = check_way(way) == "left"
    swings = [over(clasp.twist, clasp.span) for clasp in clasps_of(work, kept)]
    if len(swings) == 0:
        return None
    least = least_of(swings if to_left else [negative(swing) for swing in swings])
    return ZERO if sign_of(least) < 0 else least
