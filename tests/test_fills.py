"""Points [31] and [32], and [1] for the lists of the table."""

import itertools
import random

from fewserve.errors import BadTable
from fewserve.fills import fill, whole_determinant
from fewserve.schemes import Scheme
from fewserve.tables import Table
from tests import slow


def unit(column, columns):
    return [1 if at == column else 0 for at in range(columns)]


def slow_fill(table, things):
    """Go through the columns as the document says."""
    rows = table.rows_of(things)
    if not slow.independent(rows):
        return None
    taken = []
    for column in range(table.columns):
        if slow.independent(rows + [unit(column, table.columns)]):
            rows.append(unit(column, table.columns))
            taken.append(column)
    return tuple(taken)


def draw_table(draw):
    columns = draw.randint(0, 4)
    many = draw.randint(0, 5)
    return Table(slow.draw_rows(draw, many, columns, -1, 1), columns)


class Fills(slow.Case):
    def test_edges(self):
        self.assertEqual(fill(Table([], 0), ()), ())
        self.assertEqual(fill(Table([], 3), ()), (0, 1, 2))
        self.assertIsNone(fill(Table([[]], 0), (0,)))
        self.assertIsNone(fill(Table([[0, 0], [1, 2]], 2), (0,)))
        table = Table.plain(12, 6)
        self.assertEqual(fill(table, (11, 0, 5, 3, 2, 7)), ())
        self.assertEqual(fill(table, (11,)), (0, 1, 2, 3, 4))
        self.assertIsNone(fill(table, (3, 3)))
        self.assertIsNone(fill(table, (0, 1, 2, 3, 4, 5, 6)))

    def test_ordinary(self):
        table = Table([[1, 0, 0], [0, 1, 0], [0, 0, 5], [1, 1, 0], [2, 2, 0]], 3)
        self.assertEqual(fill(table, (0,)), (1, 2))
        self.assertEqual(fill(table, (1,)), (0, 2))
        self.assertEqual(fill(table, (2,)), (0, 1))
        self.assertEqual(fill(table, (3,)), (0, 2))
        self.assertEqual(fill(table, (3, 1)), (2,))
        self.assertEqual(fill(table, (2, 0)), (1,))
        self.assertEqual(fill(table, (2, 0, 1)), ())
        self.assertIsNone(fill(table, (3, 4)))
        self.assertIsNone(fill(table, (0, 1, 3)))

    def test_drawn(self):
        draw = random.Random(21)
        for _ in range(80):
            table = draw_table(draw)
            for size in range(table.columns + 2):
                for things in itertools.permutations(range(table.things), min(size, 3)):
                    found = fill(table, things)
                    self.assertEqual(found, slow_fill(table, things))
                    self.assertEqual(found is None, not slow.independent(table.rows_of(things)))
                    if found is not None:
                        self.assertEqual(len(found), table.columns - len(things))
                        self.assertNotEqual(whole_determinant(table, things, found), 0)

    def test_fits_exactly_if_it_can_be_filled(self):
        draw = random.Random(22)
        for _ in range(40):
            table = draw_table(draw)
            scheme = Scheme(table, draw.randint(0, table.columns))
            for lot in itertools.combinations(range(table.things), scheme.size):
                for ask in slow.asks(table.things, scheme.spare):
                    self.assertEqual(scheme.fits(lot, ask), fill(table, lot + ask) is not None)


class WholeDeterminants(slow.Case):
    def test_edges(self):
        self.assertEqual(whole_determinant(Table([], 0), ()), 1)
        self.assertEqual(whole_determinant(Table([], 0), (), ()), 1)
        table = Table.plain(3, 2)
        self.assertEqual(whole_determinant(table, (), (0, 1)), 1)
        self.assertEqual(whole_determinant(table, (), (1, 0)), 96)
        self.assertEqual(whole_determinant(table, (), (1, 1)), 0)
        self.assertEqual(whole_determinant(table, (0, 2)), 2)
        self.assertEqual(whole_determinant(table, (2, 0)), 95)
        self.assertEqual(whole_determinant(table, (2, 2)), 0)
        self.assertEqual(whole_determinant(table, (2,), (0,)), 94)
        self.assertEqual(whole_determinant(table, (2,), columns=(1,)), 1)

    def test_wrong(self):
        table = Table.plain(4, 2)
        for things, columns in (((), ()), ((0,), ()), ((), (0,)), ((0, 1), (0,)), ((0, 1, 2), ()), ((0,), (0, 1))):
            self.refuse(BadTable, {}, whole_determinant, table, things, columns)
        self.refuse(BadTable, {}, whole_determinant, table, (0,))
        self.refuse(BadTable, {}, whole_determinant, Table([[]], 0), (0,))

    def test_drawn(self):
        draw = random.Random(23)
        for _ in range(200):
            table = draw_table(draw)
            many = draw.randint(0, table.columns) if table.things else 0
            things = tuple(draw.randrange(table.things) for _ in range(many))
            columns = tuple(draw.randrange(table.columns) for _ in range(table.columns - many))
            rows = table.rows_of(things) + [unit(column, table.columns) for column in columns]
            self.assertEqual(whole_determinant(table, things, columns), slow.det(rows))

    def test_pairing(self):
        draw = random.Random(24)
        for _ in range(40):
            table = draw_table(draw)
            scheme = Scheme(table, draw.randint(0, table.columns))
            for lot in itertools.combinations(range(table.things), scheme.size):
                for ask in itertools.combinations(range(table.things), scheme.spare):
                    self.assertEqual(whole_determinant(table, lot + ask), scheme.pairing(lot, ask))

    def test_table_stays(self):
        table = Table([[1, 2], [3, 4]], 2)
        fill(table, (1,))
        whole_determinant(table, (1, 0))
        self.assertEqual(table.rows_of((0, 1)), [[1, 2], [3, 4]])
