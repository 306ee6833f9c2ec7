"""Clashes: certificates that a lot does not fit an ask."""

from fewserve.residues import PRIME, combine, relation


def clash(scheme, lot, ask):
    """Return the first relation between the rows of the lot and of the ask, or None."""
    scheme.check(lot)
    scheme.check_ask(ask)
    return relation(scheme.table.rows_of(lot + ask))


def judge_clash(scheme, lot, ask, numbers):
    """Return True if the integers are a clash of the lot and the ask."""
    scheme.check(lot)
    scheme.check_ask(ask)
    if len(numbers) != len(lot) + len(ask) or not any(numbers):
        return False
    if not all([0 <= number < PRIME for number in numbers]):
        return False
    columns = scheme.table.columns
    return combine(numbers, scheme.table.rows_of(lot + ask), columns) == [0] * columns
