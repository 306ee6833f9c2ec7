"""Things of several kinds, each kind with a table and a size of its own."""

from fewserve.errors import BadAsk, BadLot, BadTable
from fewserve.lots import is_lot
from fewserve.residues import PRIME, product_of
from fewserve.schemes import Scheme, check_full
from fewserve.tables import Table


def direct_sum(tables):
    """Return the table that has the things and the columns of all tables."""
    columns = sum([table.columns for table in tables])
    rows = []
    before = 0
    for table in tables:
        after = columns - before - table.columns
        for thing in range(table.things):
            rows.append([0] * before + table.row(thing) + [0] * after)
        before = before + table.columns
    return Table(rows, columns)


class Kinds(Scheme):
    """A scheme that is put together from a scheme for each kind. It never changes."""

    def __init__(self, tables, sizes):
        if len(tables) != len(sizes):
            raise BadTable("there is not one size for each table")
        table = direct_sum(tables)
        self._schemes = [Scheme(one, size) for one, size in zip(tables, sizes)]
        super().__init__(table, sum(sizes))
        # The lots have fewer numbers in their rows than those of the whole table.
        self.width = product_of([scheme.width for scheme in self._schemes])

    def check(self, lot):
        """Raise BadLot if the tuple is not a lot of the scheme."""
        if not is_lot(lot, self.table.things):
            raise BadLot(lot)
        for scheme, share in zip(self._schemes, self.shares(lot)):
            if len(share) != scheme.size:
                raise BadLot(lot)

    def check_ask(self, ask):
        """Raise BadAsk if the tuple is not an ask of the scheme."""
        if not is_lot(ask, self.table.things):
            raise BadAsk(ask)
        for scheme, share in zip(self._schemes, self.shares(ask)):
            if len(share) > scheme.spare:
                raise BadAsk(ask)

    def shares(self, things):
        """Return the things of each kind, numbered within their own table."""
        found = []
        before = 0
        for scheme in self._schemes:
            after = before + scheme.table.things
            found.append(tuple([thing - before for thing in things if before <= thing < after]))
            before = after
        return found

    def row(self, lot):
        """Return the row of a lot: the products of the numbers of its shares' rows."""
        self.check(lot)
        shares = self.shares(lot)
        return products([scheme.row(share) for scheme, share in zip(self._schemes, shares)])

    def corow(self, ask):
        """Return the opposite row of a full ask."""
        check_full(self, ask)
        shares = self.shares(ask)
        return products([scheme.corow(share) for scheme, share in zip(self._schemes, shares)])


def products(rows):
    """Return a product for each way to choose one number from each row; the first is slowest."""
    found = [1]
    for row in rows:
        found = [product * number % PRIME for product in found for number in row]
    return found
