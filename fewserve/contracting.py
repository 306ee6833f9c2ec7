"""Contracted tables: what is free beside things that are already known."""

from fewserve.errors import BadLot, BadTable
from fewserve.lots import is_lot
from fewserve.residues import leading_column, reduced, scaled
from fewserve.schemes import Scheme, kept_list
from fewserve.tables import Table


def reduced_form(rows):
    """Return the rows of the reduced form of independent rows, each behind its leading column."""
    basis = []
    for row in rows:
        rest = reduced(row, basis)
        column = leading_column(rest)
        step = (column, scaled(rest, column))
        # The new row is 0 before its column, so no other row gets another leading column.
        basis = [(one, reduced(other, [step])) for one, other in basis] + [step]
    return sorted(basis)


def contract(table, lot):
    """Return the table in which the things of the lot are taken as known."""
    if not is_lot(lot, table.things) or not table.free(lot):
        raise BadLot(lot)
    form = reduced_form(table.rows_of(lot))
    leading = [column for column, _ in form]
    others = [column for column in range(table.columns) if column not in leading]
    rests = [reduced(table.row(thing), form) for thing in range(table.things)]
    return Table([[rest[column] for column in others] for rest in rests], len(others))


def narrowed_list(table, size, items, known):
    """Return the kept list of the items for asks that contain the known things."""
    return kept_list(Scheme(contract(table, known), size), items)


def cut_columns(table, columns):
    """Return the table that has only the first columns."""
    if not 0 <= columns <= table.columns:
        raise BadTable("the table does not have so many columns")
    return Table([table.row(thing)[:columns] for thing in range(table.things)], columns)
