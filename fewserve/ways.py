"""Dearest ways through a web whose places are free in a table."""

from fewserve.errors import BadSize, BadTable, UnknownItem
from fewserve.growing import grow
from fewserve.lots import ranked, without
from fewserve.schemes import Scheme, kept_list


def check_ways(web, table, count, least):
    """Raise an error if the things are not the places, or if the count is out of its range."""
    if table.things != web.places:
        raise BadTable("the table does not have a thing for each place")
    if not least <= count <= table.columns:
        raise BadSize(count)


def way_lists(web, table, count, *, start=None):
    """Return the stages of the web: for each number of places a list at each place."""
    check_ways(web, table, count, 1)
    stages = []
    for size in range(1, count + 1):
        scheme = Scheme(table, size)
        grown = grown_items(web, stages, start)
        stages.append([kept_list(scheme, items) for items in grown])
    return stages


def grown_items(web, stages, start=None):
    """Return for each place the items that are grown into it in the stage after the given ones."""
    if not stages:
        return [
            [(0, (place,))] if start is None or place == start else []
            for place in range(web.places)
        ]
    return [
        grown_into(web, stages[-1], place) if start is None or place > start else []
        for place in range(web.places)
    ]


def grown_into(web, stage, place):
    """Return the items of the stage, grown by the steps that lead to the place."""
    return [item for v, worth in web.before(place) for item in grow(stage[v], place, worth)]


def trace(web, lists, place, item):
    """Return the way of an item of the last stage at a place, found from its end."""
    if item not in lists[-1][place]:
        raise UnknownItem(item)
    way = (place,)
    for stage in reversed(lists[:-1]):
        place, item = step_back(web, stage, place, item)
        way = (place,) + way
    return way


def step_back(web, stage, place, item):
    """Return the least place before the place, and its item of the stage that grew to the item."""
    worth, lot = item
    rest = without(lot, (place,))
    found = [(v, (worth - more, rest)) for v, more in web.before(place)]
    return [(v, smaller) for v, smaller in found if smaller in stage[v]][0]


def best_way(web, table, count, *, end=None):
    """Return the worth and the places of a dearest free way, or None if there is no such way."""
    lists = way_lists(web, table, count)
    places = list(range(web.places)) if end is None else [end]
    found = ranked([item for place in places for item in lists[-1][place]])
    if not found:
        return None
    best = found[0]
    least = [place for place in places if best in lists[-1][place]][0]
    return (best[0], trace(web, lists, least, best))
