"""Hitting sets: things that meet the lots of all items."""

from fewserve.lots import all_asks, apart, without
from fewserve.schemes import Scheme, kept_list
from fewserve.tables import Table


def meets(items, things):
    """Return True if the lot of each item contains at least one of the things."""
    return not any([apart(lot, things) for _, lot in items])


def minimal_meetings(items, most):
    """Return all tuples of at most that many things of which none can be spared."""
    # Other things than those of the lots can always be spared.
    present = sorted({thing for _, lot in items for thing in lot})
    found = []
    for places in all_asks(len(present), most):
        things = tuple([present[at] for at in places])
        if is_minimal(items, things):
            found.append(things)
    return found


def is_minimal(items, things):
    """Return True if the things meet the items, but not without any one of them."""
    fewer = [without(things, (thing,)) for thing in things]
    return meets(items, things) and not any([meets(items, rest) for rest in fewer])


def cheapest_meeting(items, costs, most):
    """Return the least cost of things that meet the items, and these things, or None."""
    # No cost is negative, so things that can be spared are never better.
    found = [
        (sum([costs[thing] for thing in things]), len(things), things)
        for things in minimal_meetings(items, most)
    ]
    if not found:
        return None
    cost, _, best = min(found)
    return (cost, best)


def meeting_kernel(items, things, size, most):
    """Return the kept list that the same tuples of at most that many things meet."""
    # The scheme refuses the size if it is less than 0, or if it leaves a spare number less than 0.
    return kept_list(Scheme(Table.plain(things, size + most), size), items)
