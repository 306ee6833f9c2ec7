"""Wedges: the minors of rows, with a product that puts rows together."""

from fewserve.dets import order_sign
from fewserve.errors import BadWedge
from fewserve.lots import choices, without
from fewserve.residues import PRIME
from fewserve.tables import Table


class Wedge:
    """A residue for each choice of size columns. A wedge never changes."""

    def __init__(self, columns, size, parts):
        if not 0 <= columns <= Table.MOST_COLUMNS:
            raise BadWedge("no wedge has this number of columns")
        if not 0 <= size <= columns:
            raise BadWedge("the size is not from 0 to the number of columns")
        places = choices(columns, size)
        if len(parts) != len(places):
            raise BadWedge("there is not one part for each choice")
        self.columns = columns
        self.size = size
        self.parts = [part % PRIME for part in parts]
        self._part_at = dict(zip(places, self.parts))

    @classmethod
    def of_rows(cls, rows, columns):
        """Return the wedge of a list of rows."""
        # Too many rows and rows of a wrong length fail in a single wedge or in a product.
        result = cls(columns, 0, [1])
        for row in rows:
            result = result ^ cls(columns, 1, row)
        return result

    def __xor__(self, other):
        size = self.size + other.size
        if self.columns != other.columns or size > self.columns:
            raise BadWedge("the two wedges have no product")
        places = choices(self.columns, size)
        return Wedge(self.columns, size, [product_part(self, other, chosen) for chosen in places])

    def __add__(self, other):
        check_alike(self, other)
        return Wedge(self.columns, self.size, [a + b for a, b in zip(self.parts, other.parts)])

    def __sub__(self, other):
        check_alike(self, other)
        return Wedge(self.columns, self.size, [a - b for a, b in zip(self.parts, other.parts)])

    def __neg__(self):
        return Wedge(self.columns, self.size, [-part for part in self.parts])

    def __mul__(self, other):
        return Wedge(self.columns, self.size, [part * other for part in self.parts])

    def __eq__(self, other):
        return (
            isinstance(other, Wedge)
            and self.columns == other.columns
            and self.size == other.size
            and self.parts == other.parts
        )

    def __bool__(self):
        return any(self.parts)

    def __iter__(self):
        return iter(self._part_at.items())

    def part(self, chosen):
        """Return the part at a choice."""
        if chosen not in self._part_at:
            raise BadWedge("the wedge has no such choice")
        return self._part_at[chosen]

    @property
    def whole(self):
        """The only part of a wedge whose size is its number of columns."""
        if self.size != self.columns:
            raise BadWedge("the wedge is smaller than its number of columns")
        return self.parts[0]


def check_alike(left, right):
    """Raise BadWedge if the wedges differ in their numbers of columns or their sizes."""
    if left.columns != right.columns or left.size != right.size:
        raise BadWedge("the two wedges have unlike columns or sizes")


def product_part(left, right, chosen):
    """Return the part of the product of two wedges at a choice."""
    total = 0
    for first in sub_choices(chosen, left.size):
        second = without(chosen, first)
        # Both are ascending, so only pairs of a column of each of them can be turned.
        sign = order_sign(first + second)
        total = total + sign * left.part(first) * right.part(second)
    return total % PRIME


def sub_choices(chosen, size):
    """Return all ascending tuples of size columns of the ascending tuple."""
    return [tuple([chosen[at] for at in places]) for places in choices(len(chosen), size)]
