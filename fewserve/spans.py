"""Spans: independent rows, and the rows that are sums of them."""

from fewserve.errors import DependentRow
from fewserve.residues import PRIME, leading_column, reduced, scaled, unit_row


class Span:
    """Independent rows that can be added and replaced."""

    def __init__(self, width, rows=()):
        self._width = width
        self._rows = [[number % PRIME for number in row] for row in rows]
        self._basis = basis_of(self._rows, width)

    @property
    def rows(self):
        """The rows of the span, in the order of their indexes."""
        return [list(row) for row in self._rows]

    def coefficients(self, row):
        """Return the numbers with which the span's rows add up to the row, or None."""
        width = self._width
        rest = reduced(row + [0] * width, self._basis)
        if leading_column(rest[:width]) is not None:
            return None
        # Behind the row stands what was subtracted from it, so with the other sign.
        return [-number % PRIME for number in rest[width:width + len(self._rows)]]

    def add(self, row):
        """Put a row behind the other rows; raise DependentRow if it is in the span."""
        step = next_step(self._basis, row, self._width)
        self._rows.append([number % PRIME for number in row])
        self._basis.append(step)

    def replace(self, index, row):
        """Put another row at the index; raise DependentRow if the span would change."""
        if not 0 <= index < len(self._rows):
            raise DependentRow("there is no row at the index")
        parts = self.coefficients(row)
        if parts is None or parts[index] == 0:
            raise DependentRow("the row is no sum in which the row at the index counts")
        self._rows[index] = [number % PRIME for number in row]
        self._basis = basis_of(self._rows, self._width)

    def __len__(self):
        return len(self._rows)

    def __contains__(self, x):
        return self.coefficients(x) is not None


def basis_of(rows, width):
    """Return the basis of independent rows; raise DependentRow if they are not independent."""
    basis = []
    for row in rows:
        basis.append(next_step(basis, row, width))
    return basis


def next_step(basis, row, width):
    """Return the pair of a column and a row that the next row of a span adds to its basis.

    Behind each row stands a unit row for its index, which keeps account of what was subtracted
    from the row. There are never more independent rows than columns.
    """
    rest = reduced(row + unit_row(len(basis), width), basis)
    column = leading_column(rest[:width])
    if column is None:
        raise DependentRow("the row is in the span")
    return (column, scaled(rest, column))
