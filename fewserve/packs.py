"""Packings: items whose things are all free together."""

from fewserve.errors import BadLot, BadSize
from fewserve.growing import grow_all
from fewserve.lots import is_lot, ranked, without
from fewserve.schemes import Scheme, kept_list


def check_packed(table, items, count, size=None):
    """Raise an error for the count, or for the first lot; it has the size, if one is passed."""
    if count < 0:
        raise BadSize(count)
    for _, lot in items:
        if not is_lot(lot, table.things) or size is not None and len(lot) != size:
            raise BadLot(lot)


def pack_lists(table, size, items, count):
    """Return for each number of items the kept list of all packings of so many items."""
    if size < 1:
        raise BadSize(size)
    check_packed(table, items, count, size)
    singles = single_list(table, size, items)
    lists = [[(0, ())]]
    for many in range(1, count + 1):
        if size * many > table.columns:
            lists.append([])
        else:
            lists.append(kept_list(Scheme(table, size * many), grow_all(lists[-1], singles)))
    return lists


def single_list(table, size, items):
    """Return the kept list of the items, or an empty list if no packing can have one of them."""
    return kept_list(Scheme(table, size), items) if size <= table.columns else []


def best_packing(table, size, items, count):
    """Return the worth and the items of a dearest packing, or None if there is no packing."""
    lists = pack_lists(table, size, items, count)
    if not lists[-1]:
        return None
    singles = single_list(table, size, items)
    current = lists[-1][0]
    taken = []
    for smaller in reversed(lists[:-1]):
        item = taken_item(singles, smaller, current)
        taken.append(item)
        current = rest_of(current, item)
    return (lists[-1][0][0], ranked(taken))


def rest_of(current, item):
    """Return what is left of the current item without the other one."""
    return (current[0] - item[0], without(current[1], item[1]))


def taken_item(singles, smaller, current):
    """Return the first item that leaves an item of the smaller list."""
    found = [
        item
        for item in singles
        if all([thing in current[1] for thing in item[1]]) and rest_of(current, item) in smaller
    ]
    return found[0]


def packings(table, items, count):
    """Yield all packings of exactly that many items, in ascending order of their ranks."""
    check_packed(table, items, count)
    listed = ranked(items)
    found = [()]
    for _ in range(count):
        found = [longer for chosen in found for longer in longer_choices(table, listed, chosen)]
    for chosen in found:
        yield [listed[at] for at in chosen]


def longer_choices(table, listed, chosen):
    """Return the indexes of the packing with one later item more, in all ways that are free."""
    things = things_of([listed[at] for at in chosen])
    first = chosen[-1] + 1 if chosen else 0
    return [
        chosen + (at,)
        for at in range(first, len(listed))
        if table.free(things + listed[at][1])
    ]


def things_of(items):
    """Return the things of all the lots, one lot after the other."""
    return tuple([thing for _, lot in items for thing in lot])


def packing_within(table, items, count):
    """Return the worth and the items of the first dearest packing, or None if there is none."""
    best = None
    for chosen in packings(table, items, count):
        worth = sum([one for one, _ in chosen])
        if best is None or worth > best[0]:
            best = (worth, chosen)
    return best
