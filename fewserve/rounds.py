"""Dearest rounds: ways through a web that come back to where they begin."""

from fewserve.lots import rank
from fewserve.ways import check_ways, trace, way_lists


def best_round(web, table, count):
    """Return the worth and the way of a dearest round, or None if there is no round."""
    check_ways(web, table, count, 2)
    found = []
    for start in range(web.places):
        found.extend(rounds_from(web, table, count, start))
    if not found:
        return None
    _, best = min(found)
    return best


def rounds_from(web, table, count, start):
    """Return the best round from the start for each last place, behind its place in the order.

    The start is the least place of the lot, so no two rounds have the same place in the order.
    """
    lists = way_lists(web, table, count, start=start)
    found = []
    for last, back in web.before(start):
        # The step back adds the same to all worths at this place, so the first item is the best.
        for worth, lot in lists[-1][last][:1]:
            way = trace(web, lists, last, (worth, lot))
            found.append(((rank((worth + back, lot)), last), (worth + back, way)))
    return found
