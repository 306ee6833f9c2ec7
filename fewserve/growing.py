"""Items that grow by a thing, or join with other items."""

from fewserve.errors import BadLot, BadSize
from fewserve.lots import joined, ranked
from fewserve.schemes import Scheme, kept_list


def grow(items, thing, worth):
    """Return the items without the thing, grown by it and the worth, in rank order."""
    return grow_all(items, [(worth, (thing,))])


def grow_all(items, others):
    """Return all joins of an item and another one that are apart, in rank order."""
    joins = [
        (worth + more, joined(lot, other))
        for worth, lot in items
        for more, other in others
    ]
    return ranked([item for item in joins if item[1] is not None])


def staged_lists(table, stages):
    """Return the kept lists of the items that come from one choice in each stage so far."""
    check_stages(table, stages)
    lists = [[(0, ())]]
    for size, stage in enumerate(stages, start=1):
        grown = [
            item
            for thing, worth in stage
            for item in grow(lists[-1], thing, worth)
        ]
        lists.append(kept_list(Scheme(table, size), grown))
    return lists


def check_stages(table, stages):
    """Raise an error for too many stages, or for the first thing that is not in the table."""
    if len(stages) > table.columns:
        raise BadSize(len(stages))
    for stage in stages:
        for thing, _ in stage:
            if not 0 <= thing < table.things:
                raise BadLot((thing,))
