"""Tables of webs and of boxes, and forests in webs."""

from fewserve.errors import BadTable
from fewserve.lots import ranked
from fewserve.residues import unit_row
from fewserve.tables import Table, check_shape


class Components:
    """Places that are connected one pair after another."""

    def __init__(self, places):
        # The components, in ascending order.
        self._parts = [(place,) for place in range(places)]

    def connect(self, u, v):
        """Connect two places; return True if they were in different components."""
        first = self.component(u)
        second = self.component(v)
        if first == second:
            return False
        others = [part for part in self._parts if part != first and part != second]
        self._parts = sorted(others + [tuple(sorted(first + second))])
        return True

    def component(self, place):
        """Return the component of a place."""
        return [part for part in self._parts if place in part][0]

    def __iter__(self):
        return iter(self._parts)

    def __len__(self):
        return len(self._parts)

    def __contains__(self, x):
        u, v = x
        return v in self.component(u)


def check_web(places, edges):
    """Raise BadTable if this is no web."""
    if not 1 <= places <= Table.MOST_COLUMNS + 1:
        raise BadTable("no web has this number of places")
    if len(edges) > Table.MOST_ROWS:
        raise BadTable("more edges than a web can have")
    if any([not 0 <= end < places for edge in edges for end in edge]):
        raise BadTable("an end of an edge is no place of the web")


def web_table(places, edges, *, root=0):
    """Return the table of a web: a thing for each edge, a column for each place but the root."""
    check_web(places, edges)
    if not 0 <= root < places:
        raise BadTable("the root is no place of the web")
    others = [place for place in range(places) if place != root]
    return Table([edge_row(edge, others) for edge in edges], places - 1)


def edge_row(edge, places):
    """Return the row of an edge, with a column for each of the places."""
    u, v = edge
    return [(1 if place == u else 0) - (1 if place == v else 0) for place in places]


def is_forest(places, edges, chosen):
    """Return True if each chosen edge connects two components when it is its turn."""
    check_web(places, edges)
    components = Components(places)
    for number in chosen:
        u, v = edges[number]
        if not components.connect(u, v):
            return False
    return True


def dearest_forest(places, edges, worths):
    """Return the items of the edges that connect two components, taken in rank order."""
    check_web(places, edges)
    components = Components(places)
    found = []
    for worth, lot in ranked([(worth, (at,)) for at, worth in enumerate(worths)]):
        u, v = edges[lot[0]]
        if components.connect(u, v):
            found.append((worth, lot))
    return found


def box_table(boxes, columns):
    """Return the table in which each thing has 1 in the column of its box and 0 elsewhere."""
    check_shape(len(boxes), columns)
    if any([not 0 <= box < columns for box in boxes]):
        raise BadTable("a box is no column of the table")
    return Table([unit_row(box, columns) for box in boxes], columns)
