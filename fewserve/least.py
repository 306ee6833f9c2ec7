"""Least lists: only the items that are the first fit of some ask."""

from fewserve.asking import profile
from fewserve.lots import ranked


def serves(scheme, few, items):
    """Return True if both lists of items have the same first fits."""
    return profile(scheme, few) == profile(scheme, items)


def least_list(scheme, items):
    """Return the items that are the first fit of at least one ask, in rank order."""
    return ranked([item for _, item in profile(scheme, items) if item is not None])


def witnesses(scheme, items):
    """Return each item of the least list with the first ask that it is the first fit of."""
    first_asks = {}
    for ask, item in profile(scheme, items):
        if item is not None:
            first_asks.setdefault(item, ask)
    return [(item, first_asks[item]) for item in ranked(list(first_asks))]
