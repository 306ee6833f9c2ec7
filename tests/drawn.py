"""Schemes of all three kinds that the tests draw, with their lots and asks counted slowly."""

import itertools

from fewserve.kinds import Kinds
from fewserve.roots import Roots
from fewserve.schemes import Scheme
from fewserve.tables import Table
from tests import slow


class Drawn:
    """A scheme, all its lots and all its asks; the asks in the order of the profile."""

    def __init__(self, scheme, lots, asks):
        self.scheme = scheme
        self.table = scheme.table
        self.lots = lots
        self.asks = asks

    def items(self, draw, most=10, worths=3):
        """Return up to that many drawn items; few worths make many equal ones."""
        many = draw.randint(0, most) if self.lots else 0
        return [(draw.randint(-worths, worths), draw.choice(self.lots)) for _ in range(many)]

    def kept(self, items):
        """Return the kept list, counted slowly over the table's minors."""
        table = self.table
        return slow.kept_list(lambda lot: slow.minors(table.rows_of(lot), table.columns), items)

    def fits(self, lot, ask):
        return slow.fits(self.table, lot, ask)

    def first(self, items, ask):
        return slow.first_fit(self.table, items, ask)

    def is_paper(self, item, entries):
        """Return whether the entries are a paper for the item, by the definition in [47]."""
        if entries == [(1, item)]:
            return True
        places = [(-worth, lot) for _, (worth, lot) in entries] + [(-item[0], item[1])]
        if not all(first < second for first, second in zip(places, places[1:])):
            return False
        total = [0] * self.scheme.width
        for number, (_, lot) in entries:
            if number not in range(1, 97) or lot not in self.lots:
                return False
            total = [(a + number * b) % 97 for a, b in zip(total, self.scheme.row(lot))]
        return total == self.scheme.row(item[1])

    def is_paper_over(self, listed, item, entries):
        return all(entry[1] in listed for entry in entries) and self.is_paper(item, entries)

    def bad_lots(self):
        """Return some tuples that are no lots of the scheme."""
        things = self.table.things
        found = [(things,) * self.scheme.size, (-1,) + tuple(range(self.scheme.size)), (0, 0), (1, 0, 2), (10 ** 30,)]
        shorter = [lot[1:] for lot in self.lots[:1] if lot]
        return [lot for lot in found + shorter if lot not in self.lots]

    def bad_asks(self):
        """Return some tuples that are no asks of the scheme."""
        things = self.table.things
        found = [(things,), (-1,), (0, 0), (1, 0), tuple(range(self.scheme.spare + 1)), (10 ** 30,)]
        return [ask for ask in found if ask not in self.asks]


def draw_table(draw, things, columns):
    """Return a table of points, or of small numbers, which makes many things that are not free."""
    if draw.randrange(2):
        return Table.points(draw.sample(range(97), things), columns)
    return Table(slow.draw_rows(draw, things, columns, -1, 1), columns)


def draw_plain(draw, most_columns=4, most_things=6):
    columns = draw.randint(0, most_columns)
    size = draw.randint(0, columns)
    things = draw.randint(size, most_things)
    scheme = Scheme(draw_table(draw, things, columns), size)
    return Drawn(scheme, list(itertools.combinations(range(things), size)), slow.asks(things, columns - size))


def draw_roots(draw, most_columns=4, most_things=6):
    columns = draw.randint(0, most_columns)
    size = draw.randint(0, columns)
    things = draw.randint(size, most_things)
    numbers = [number + 97 * draw.randint(-2, 2) for number in draw.sample(range(97), things)]
    scheme = Roots(numbers, size, columns - size)
    return Drawn(scheme, list(itertools.combinations(range(things), size)), slow.asks(things, columns - size))


def draw_kinds(draw):
    tables = []
    for _ in range(draw.randint(0, 3)):
        tables.append(draw_table(draw, draw.randint(0, 3), draw.randint(0, 2)))
    sizes = [draw.randint(0, min(table.columns, table.things)) for table in tables]
    scheme = Kinds(tables, sizes)
    spares = [table.columns - size for table, size in zip(tables, sizes)]
    everything = slow.asks(scheme.table.things, 6)
    lots = [lot for lot in everything if shape(tables, lot) == sizes]
    asks = [ask for ask in everything if all(a <= b for a, b in zip(shape(tables, ask), spares))]
    return Drawn(scheme, lots, asks)


def shape(tables, things):
    """Return how many of the things belong to each table."""
    owners = [kind for kind, table in enumerate(tables) for _ in range(table.things)]
    return [sum(1 for thing in things if owners[thing] == kind) for kind in range(len(tables))]


def draw_scheme(draw):
    return draw.choice([draw_plain, draw_roots, draw_kinds])(draw)
