"""Points [36] to [39], and [16] to [18] for schemes of kinds."""

import itertools
import random

from fewserve.errors import BadAsk, BadLot, BadSize, BadTable
from fewserve.kinds import Kinds, direct_sum
from fewserve.schemes import Scheme, first_fit, kept_list
from fewserve.tables import Table
from tests import slow


def draw_tables(draw):
    tables = []
    for _ in range(draw.randint(0, 3)):
        columns = draw.randint(0, 2)
        things = draw.randint(0, 3)
        if draw.randrange(2):
            tables.append(Table.points(draw.sample(range(97), things), columns))
        else:
            tables.append(Table(slow.draw_rows(draw, things, columns, -1, 1), columns))
    return tables


def draw_kinds(draw):
    """Return the tables, the sizes and the scheme; each kind has at least as many things as its size."""
    tables = draw_tables(draw)
    sizes = [draw.randint(0, min(table.columns, table.things)) for table in tables]
    return tables, sizes, Kinds(tables, sizes)


def slow_shares(tables, things):
    owners = [(kind, thing) for kind, table in enumerate(tables) for thing in range(table.things)]
    found = [[] for _ in tables]
    for thing in things:
        kind, own = owners[thing]
        found[kind].append(own)
    return [tuple(share) for share in found]


def tuples_of_shape(tables, shape):
    """Return all ascending tuples whose shares have the lengths that the shape lists."""
    things = sum(table.things for table in tables)
    return [
        chosen
        for chosen in itertools.combinations(range(things), sum(shape))
        if [len(share) for share in slow_shares(tables, chosen)] == list(shape)
    ]


def asks_of(tables, spares):
    shapes = itertools.product(*[range(spare + 1) for spare in spares])
    return [ask for shape in shapes for ask in tuples_of_shape(tables, shape)]


def slow_products(rows):
    found = []
    for numbers in itertools.product(*rows):
        product = 1
        for number in numbers:
            product = product * number % 97
        found.append(product)
    return found


class DirectSums(slow.Case):
    def test_ordinary(self):
        table = direct_sum([Table([[1, 2], [3, 4]], 2), Table([[-1]], 1), Table([[5, 6]], 2)])
        self.assertEqual((table.things, table.columns), (4, 5))
        told = [[1, 2, 0, 0, 0], [3, 4, 0, 0, 0], [0, 0, 96, 0, 0], [0, 0, 0, 5, 6]]
        self.assertEqual(table.rows_of((0, 1, 2, 3)), told)
        self.assertIs(type(table), Table)

    def test_edges(self):
        empty = direct_sum([])
        self.assertEqual((empty.things, empty.columns), (0, 0))
        table = direct_sum([Table([], 2), Table([[], []], 0), Table([[7]], 1)])
        self.assertEqual((table.things, table.columns), (3, 3))
        self.assertEqual(table.rows_of((0, 1, 2)), [[0, 0, 0], [0, 0, 0], [0, 0, 7]])
        self.assertEqual(direct_sum([Table.plain(12, 6)]).show(), Table.plain(12, 6).show())
        self.assertEqual(direct_sum([Table.plain(1, 0)] * 12).things, 12)
        self.assertEqual(direct_sum([Table.plain(6, 3)] * 2).columns, 6)

    def test_wrong(self):
        for tables in (
            [Table.plain(7, 3), Table.plain(6, 3)], [Table.plain(1, 3), Table.plain(1, 4)], [Table([], 6), Table([], 1)],
            [Table.plain(12, 6)] * 12, [Table.plain(12, 0), Table.plain(1, 0)],
        ):
            self.refuse(BadTable, {}, direct_sum, tables)
            self.refuse(BadTable, {}, Kinds, tables, [0] * len(tables))

    def test_list_that_is_passed(self):
        tables = [Table([[1]], 1), Table([[2]], 1)]
        copy = list(tables)
        table = direct_sum(tables)
        self.assertEqual(tables, copy)
        tables.clear()
        self.assertEqual(table.rows_of((0, 1)), [[1, 0], [0, 2]])


class Schemes(slow.Case):
    def test_attributes(self):
        kinds = Kinds([Table.plain(3, 2), Table.plain(4, 4)], [1, 2])
        self.assertIsInstance(kinds, Scheme)
        self.assertEqual((kinds.size, kinds.spare, kinds.width), (3, 3, 12))
        self.assertEqual(kinds.table.show(), direct_sum([Table.plain(3, 2), Table.plain(4, 4)]).show())
        none = Kinds([], [])
        self.assertEqual((none.size, none.spare, none.width), (0, 0, 1))
        self.assertEqual((none.table.things, none.table.columns), (0, 0))
        empty = Kinds([Table([], 2), Table([[], []], 0)], [1, 0])
        self.assertEqual((empty.size, empty.spare, empty.width), (1, 1, 2))

    def test_wrong(self):
        tables = [Table.plain(3, 2), Table.plain(4, 3)]
        for sizes in ([], [1], [1, 1, 1], [9], [-1, 9, 9]):
            self.refuse(BadTable, {}, Kinds, tables, sizes)
        self.refuse(BadTable, {}, Kinds, [], [0])
        self.refuse(BadTable, {}, Kinds, [Table.plain(7, 3), Table.plain(6, 3)], [-1, 9])
        self.refuse(BadSize, {"size": -1}, Kinds, tables, [-1, 4])
        self.refuse(BadSize, {"size": 4}, Kinds, tables, [2, 4])
        # Both together would be a size of the whole table.
        self.refuse(BadSize, {"size": 3}, Kinds, tables, [3, 1])
        self.refuse(BadSize, {"size": 10 ** 5000}, Kinds, tables, [10 ** 5000, -1])
        self.refuse(BadSize, {"size": 1}, Kinds, [Table([[]], 0)], [1])

    def test_lists_that_are_passed(self):
        tables = [Table.plain(3, 2), Table.plain(4, 2)]
        sizes = [1, 1]
        copy = list(tables)
        kinds = Kinds(tables, sizes)
        self.assertEqual((tables, sizes), (copy, [1, 1]))
        tables.pop()
        sizes[0] = 2
        self.assertIsNone(kinds.check((0, 3)))
        self.assertEqual(kinds.shares((0, 3)), [(0,), (0,)])
        self.assertEqual(kinds.row((1, 4)), [1, 2, 2, 4])
        self.assertEqual((kinds.size, kinds.spare, kinds.width), (2, 2, 4))

    def test_shares(self):
        kinds = Kinds([Table.plain(3, 2), Table([], 1), Table.plain(4, 2)], [1, 0, 1])
        self.assertEqual(kinds.shares(()), [(), (), ()])
        self.assertEqual(kinds.shares((0, 2, 3, 6)), [(0, 2), (), (0, 3)])
        self.assertEqual(kinds.shares((6, 2, 3, 0, 2)), [(2, 0, 2), (), (3, 0)])
        self.assertEqual(Kinds([], []).shares(()), [])
        shares = kinds.shares((0, 3))
        shares.clear()
        self.assertEqual(kinds.shares((0, 3)), [(0,), (), (0,)])

    def test_check(self):
        kinds = Kinds([Table.plain(3, 2), Table.plain(4, 3)], [1, 2])
        for lot in itertools.combinations(range(7), 3):
            if len([thing for thing in lot if thing < 3]) == 1:
                self.assertIsNone(kinds.check(lot))
            else:
                self.refuse(BadLot, {"lot": lot}, kinds.check, lot)
                self.refuse(BadLot, {"lot": lot}, kinds.row, lot)
        for lot in (
            (), (0,), (0, 3), (0, 3, 4, 5), (3, 0, 4), (0, 4, 3), (0, 0, 3), (0, 3, 3), (-1, 3, 4), (0, 3, 7),
            (0, 3, 10 ** 30), (-(10 ** 30), 3, 4),
        ):
            self.refuse(BadLot, {"lot": lot}, kinds.check, lot)
            self.refuse(BadLot, {"lot": lot}, kinds.row, lot)
            self.refuse(BadLot, {"lot": lot}, kinds.fits, lot, (0, 1))
            self.refuse(BadLot, {"lot": lot}, kinds.pairing, lot, (0, 1))
            self.refuse(BadLot, {"lot": lot}, kept_list, kinds, [(9, (0, 3, 4)), (1, lot)])

    def test_check_ask(self):
        kinds = Kinds([Table.plain(3, 2), Table.plain(4, 3)], [1, 1])
        right = asks_of([Table.plain(3, 2), Table.plain(4, 3)], [1, 2])
        for ask in slow.asks(7, 4):
            if ask in right:
                self.assertIsNone(kinds.check_ask(ask))
            else:
                self.refuse(BadAsk, {"ask": ask}, kinds.check_ask, ask)
                self.refuse(BadAsk, {"ask": ask}, kinds.corow, ask)
        for ask in ((0, 1), (3, 4, 5), (3, 0), (3, 3), (-1,), (7,), (0, 7), (10 ** 30,)):
            self.refuse(BadAsk, {"ask": ask}, kinds.check_ask, ask)
            self.refuse(BadAsk, {"ask": ask}, kinds.corow, ask)
            self.refuse(BadAsk, {"ask": ask}, kinds.fits, (0, 3), ask)
            self.refuse(BadAsk, {"ask": ask}, kinds.pairing, (0, 3), ask)
            self.refuse(BadAsk, {"ask": ask}, first_fit, kinds, [(1, (0, 1))], ask)

    def test_asks_that_are_not_full(self):
        kinds = Kinds([Table.plain(3, 2), Table.plain(4, 3)], [1, 1])
        for ask in ((), (0,), (3,), (3, 4), (0, 3)):
            self.assertIsNone(kinds.check_ask(ask))
            self.refuse(BadAsk, {"ask": ask}, kinds.corow, ask)
            self.refuse(BadAsk, {"ask": ask}, kinds.pairing, (0, 3), ask)
            self.refuse(BadLot, {"lot": (0, 1)}, kinds.pairing, (0, 1), ask)
        self.assertEqual(len(kinds.corow((0, 3, 4))), 6)

    def test_errors_change_nothing(self):
        kinds = Kinds([Table.plain(3, 2), Table.plain(4, 2)], [1, 1])
        row = kinds.row((0, 3))
        self.refuse(BadLot, {"lot": (0, 1)}, kinds.row, (0, 1))
        self.refuse(BadAsk, {"ask": (0, 1)}, kinds.corow, (0, 1))
        self.assertEqual(kinds.row((0, 3)), row)
        self.assertEqual((kinds.size, kinds.spare, kinds.width), (2, 2, 4))


class Rows(slow.Case):
    def test_edges(self):
        none = Kinds([], [])
        self.assertEqual(none.row(()), [1])
        self.assertEqual(none.corow(()), [1])
        self.assertEqual(none.pairing((), ()), 1)
        self.assertTrue(none.fits((), ()))
        self.assertEqual(kept_list(none, [(1, ()), (2, ())]), [(2, ())])
        self.assertEqual(first_fit(none, [(1, ()), (2, ())], ()), (2, ()))
        self.refuse(BadLot, {"lot": (0,)}, none.row, (0,))
        self.refuse(BadAsk, {"ask": (0,)}, none.corow, (0,))

    def test_the_first_kind_changes_slowest(self):
        kinds = Kinds([Table([[2, 3]], 2), Table([[5, 7, 90]], 3)], [1, 1])
        self.assertEqual(kinds.row((0, 1)), [10, 14, 83, 15, 21, 76])

    def test_drawn(self):
        draw = random.Random(30)
        for _ in range(60):
            tables, sizes, kinds = draw_kinds(draw)
            schemes = [Scheme(table, size) for table, size in zip(tables, sizes)]
            spares = [scheme.spare for scheme in schemes]
            for lot in tuples_of_shape(tables, sizes):
                shares = slow_shares(tables, lot)
                self.assertEqual(kinds.shares(lot), shares)
                row = kinds.row(lot)
                self.assertEqual(row, slow_products([s.row(share) for s, share in zip(schemes, shares)]))
                self.assertEqual(len(row), kinds.width)
                for ask in tuples_of_shape(tables, spares):
                    others = slow_shares(tables, ask)
                    corow = kinds.corow(ask)
                    self.assertEqual(corow, slow_products([s.corow(share) for s, share in zip(schemes, others)]))
                    told = 1
                    for scheme, share, other in zip(schemes, shares, others):
                        told = told * scheme.pairing(share, other) % 97
                    self.assertEqual(kinds.pairing(lot, ask), told)
                    self.assertEqual(sum(a * b for a, b in zip(row, corow)) % 97, told)
                    self.assertEqual(kinds.fits(lot, ask), told != 0)

    def test_fits_in_each_kind(self):
        draw = random.Random(31)
        for _ in range(60):
            tables, sizes, kinds = draw_kinds(draw)
            schemes = [Scheme(table, size) for table, size in zip(tables, sizes)]
            asks = asks_of(tables, [scheme.spare for scheme in schemes])
            for lot in tuples_of_shape(tables, sizes):
                for ask in asks:
                    shares = zip(schemes, slow_shares(tables, lot), slow_shares(tables, ask))
                    told = all([scheme.fits(share, other) for scheme, share, other in shares])
                    self.assertEqual(kinds.fits(lot, ask), told)
                    self.assertEqual(kinds.fits(lot, ask), slow.fits(kinds.table, lot, ask))

    def test_returned_rows_are_new(self):
        kinds = Kinds([Table.plain(3, 2), Table.plain(4, 2)], [1, 1])
        row = kinds.row((0, 3))
        corow = kinds.corow((0, 3))
        kinds.row((0, 3)).clear()
        kinds.corow((0, 3)).clear()
        self.assertEqual(kinds.row((0, 3)), row)
        self.assertEqual(kinds.corow((0, 3)), corow)


class Lists(slow.Case):
    def test_drawn(self):
        draw = random.Random(32)
        for _ in range(80):
            tables, sizes, kinds = draw_kinds(draw)
            lots = tuples_of_shape(tables, sizes)
            items = [(draw.randint(-2, 2), draw.choice(lots)) for _ in range(draw.randint(0, 10))]
            copy = list(items)
            kept = kept_list(kinds, items)
            self.assertEqual(kept, kept_list(Scheme(direct_sum(tables), kinds.size), items))
            self.assertLessEqual(len(kept), kinds.width)
            for ask in asks_of(tables, [table.columns - size for table, size in zip(tables, sizes)]):
                told = slow.first_fit(kinds.table, items, ask)
                self.assertEqual(first_fit(kinds, items, ask), told)
                self.assertEqual(first_fit(kinds, kept, ask), told)
            self.assertEqual(items, copy)

    def test_which_error_comes_first(self):
        kinds = Kinds([Table.plain(3, 2), Table.plain(4, 2)], [1, 1])
        self.refuse(BadAsk, {"ask": (0, 1)}, first_fit, kinds, [(1, (0, 1))], (0, 1))
        self.refuse(BadLot, {"lot": (0, 1)}, first_fit, kinds, [(1, (0, 1)), (2, ())], (0,))
        self.refuse(BadLot, {"lot": (0, 1)}, kinds.fits, (0, 1), (0, 1))
