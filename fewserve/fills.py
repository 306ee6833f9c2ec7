"""Filling up the rows of free things with unit rows."""

from fewserve.dets import determinant
from fewserve.errors import BadTable
from fewserve.residues import independent_indexes, unit_row


def fill(table, things):
    """Return the columns whose unit rows fill the rows of the things up, or None."""
    if not table.free(things):
        return None
    units = unit_rows(list(range(table.columns)), table.columns)
    # A unit row that is not taken is a sum of the rows before it, so it can stay among them.
    found = independent_indexes(table.rows_of(things) + units)
    return tuple([index - len(things) for index in found if index >= len(things)])


def whole_determinant(table, things, columns=()):
    """Return the determinant of the rows of the things and the unit rows of the columns."""
    if len(things) + len(columns) != table.columns:
        raise BadTable("the things and the columns do not make a square")
    return determinant(table.rows_of(things) + unit_rows(columns, table.columns))


def unit_rows(chosen, columns):
    """Return the unit rows of the chosen columns, in their order."""
    return [unit_row(column, columns) for column in chosen]
