"""Schemes: lots of one size, the asks that they can serve, and the lists to keep."""

from fewserve.errors import BadAsk, BadLot, BadSize
from fewserve.lots import choices, is_lot, ranked, without
from fewserve.residues import PRIME, dot, independent_indexes


def minors(rows, columns):
    """Return the minors of the rows, one for each choice of as many columns as rows."""
    found = {(): 1}
    for size, row in enumerate(rows, start=1):
        found = {chosen: expanded(found, row, chosen) for chosen in choices(columns, size)}
    return list(found.values())


def expanded(smaller, row, chosen):
    """Return the minor in the chosen columns whose last row is the given one.

    The minors of the rows before it are known, so it is expanded along this row (Laplace).
    """
    total = 0
    sign = 1
    for at in reversed(range(len(chosen))):
        total = total + sign * row[chosen[at]] * smaller[chosen[:at] + chosen[at + 1:]]
        sign = -sign
    return total % PRIME


def choice_sign(chosen):
    """Return the sign that the opposite row has at a choice of columns."""
    return 1 if (sum(chosen) - sum(range(len(chosen)))) % 2 == 0 else -1


class Scheme:
    """A table and the size of the lots. A scheme never changes."""

    def __init__(self, table, size):
        if not 0 <= size <= table.columns:
            raise BadSize(size)
        self.table = table
        self.size = size
        self.spare = table.columns - size
        self.width = len(choices(table.columns, size))

    def check(self, lot):
        """Raise BadLot if the tuple is not a lot of the scheme."""
        if len(lot) != self.size or not is_lot(lot, self.table.things):
            raise BadLot(lot)

    def check_ask(self, ask):
        """Raise BadAsk if the tuple is not an ask of the scheme."""
        if len(ask) > self.spare or not is_lot(ask, self.table.things):
            raise BadAsk(ask)

    def row(self, lot):
        """Return the row of a lot: its minors."""
        self.check(lot)
        return minors(self.table.rows_of(lot), self.table.columns)

    def corow(self, ask):
        """Return the opposite row of a full ask."""
        check_full(self, ask)
        columns = self.table.columns
        parts = minors(self.table.rows_of(ask), columns)
        part_at = dict(zip(choices(columns, self.spare), parts))
        everything = tuple(range(columns))
        return [
            choice_sign(chosen) * part_at[without(everything, chosen)] % PRIME
            for chosen in choices(columns, self.size)
        ]

    def pairing(self, lot, ask):
        """Return the sum of the products of the lot's row and the full ask's opposite row."""
        return dot(self.row(lot), self.corow(ask))

    def fits(self, lot, ask):
        """Return True if the things of the lot and of the ask together are free."""
        self.check(lot)
        self.check_ask(ask)
        return self.table.free(lot + ask)


def check_full(scheme, ask):
    """Raise BadAsk if the tuple is not a full ask of the scheme."""
    scheme.check_ask(ask)
    # In a scheme of kinds no kind has more than its share, so only a full ask has so many things.
    if len(ask) != scheme.spare:
        raise BadAsk(ask)


def has_lot(scheme, lot):
    """Return True if the tuple is a lot of the scheme."""
    try:
        scheme.check(lot)
    except BadLot:
        return False
    return True


def has_ask(scheme, ask):
    """Return True if the tuple is an ask of the scheme."""
    try:
        scheme.check_ask(ask)
    except BadAsk:
        return False
    return True


def check_lots(scheme, items):
    """Raise BadLot for the first item whose lot is not a lot of the scheme."""
    for _, lot in items:
        scheme.check(lot)


def kept_list(scheme, items):
    """Return the items whose rows are not sums of the rows of items that rank before them."""
    check_lots(scheme, items)
    best = ranked(items)
    rows = [scheme.row(lot) for _, lot in best]
    return [best[index] for index in independent_indexes(rows)]


def first_fit(scheme, items, ask):
    """Return the item that ranks first among those whose lot fits the ask, or None."""
    scheme.check_ask(ask)
    check_lots(scheme, items)
    return first_free(scheme.table, ranked(items), ask)


def first_free(table, listed, ask):
    """Return the first item of the list whose things and those of the ask are free, or None."""
    for item in listed:
        if table.free(item[1] + ask):
            return item
    return None
