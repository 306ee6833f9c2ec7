"""Skew lists of pairs, and lots that show that no list can be shorter and no ask longer."""

from fewserve.errors import BadAsk, BadSize
from fewserve.fills import fill, whole_determinant
from fewserve.lots import choices, without
from fewserve.schemes import Scheme, kept_list
from fewserve.tables import Table


def check_pairs(scheme, pairs):
    """Raise an error for the first lot or ask that is none of the scheme."""
    for lot, ask in pairs:
        scheme.check(lot)
        scheme.check_ask(ask)


def is_skew(scheme, pairs):
    """Return True if each lot fits the ask of its own pair and no later one."""
    check_pairs(scheme, pairs)
    for at, (lot, own) in enumerate(pairs):
        if not scheme.fits(lot, own):
            return False
        if any([scheme.fits(lot, ask) for _, ask in pairs[at + 1:]]):
            return False
    return True


def skew_matrix(scheme, pairs):
    """Return the determinants of each lot with each ask, filled up as the ask's own lot is."""
    check_pairs(scheme, pairs)
    table = scheme.table
    fills = [fill(table, lot + ask) for lot, ask in pairs]
    for columns, (_, ask) in zip(fills, pairs):
        if columns is None:
            raise BadAsk(ask)
    return [
        [
            whole_determinant(table, lot + ask, columns)
            for columns, (_, ask) in zip(fills, pairs)
        ]
        for lot, _ in pairs
    ]


def all_pairs(size, spare):
    """Return each choice of size things with the tuple of all other things."""
    everything = tuple(range(size + spare))
    return [(lot, without(everything, lot)) for lot in choices(size + spare, size)]


def beyond(size, spare):
    """Return a lot that is not kept, and an ask with a thing too many that only it would fit."""
    if size < 1:
        raise BadSize(size)
    things = size + spare + 1
    scheme = Scheme(Table.plain(things, size + spare), size)
    lots = choices(things, size)
    kept = kept_list(scheme, [(0, lot) for lot in lots])
    # All worths are equal, so the lots are in rank order.
    left = [lot for lot in lots if (0, lot) not in kept]
    return (left[0], without(tuple(range(things)), left[0]))
