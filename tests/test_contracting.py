"""Points [93] to [97]."""

import itertools
import random

from fewserve.contracting import contract, cut_columns, narrowed_list
from fewserve.errors import BadLot, BadSize, BadTable, ServeError
from fewserve.kinds import direct_sum
from fewserve.schemes import Scheme, kept_list
from fewserve.tables import Table
from tests import slow
from tests.drawn import draw_table


def rows_of(table):
    return table.rows_of(tuple(range(table.things)))


def slow_kept(table, items):
    return slow.kept_list(lambda lot: slow.minors(table.rows_of(lot), table.columns), items)


def slow_form(rows, columns):
    """Return the leading columns and the reduced form, by Cramer's rule."""
    for leading in itertools.combinations(range(columns), len(rows)):
        square = [[row[column] for column in leading] for row in rows]
        whole = slow.det(square)
        if whole:
            break
    # The rows, each times its number in the reduced row k, add up to the unit row in the leading columns.
    form = []
    for at in range(len(rows)):
        numbers = []
        for column in range(columns):
            changed = [[row[column] if k == at else old[k] for k in range(len(rows))] for row, old in zip(rows, square)]
            numbers.append(slow.det(changed) * pow(whole, -1, 97) % 97)
        form.append(numbers)
    return leading, form


def slow_contract(table, lot):
    leading, form = slow_form(table.rows_of(lot), table.columns)
    found = []
    for row in rows_of(table):
        rest = list(row)
        for column, reduced in zip(leading, form):
            rest = [(a - row[column] * b) % 97 for a, b in zip(rest, reduced)]
        found.append([number for column, number in enumerate(rest) if column not in leading])
    return found


def free_lots(table, most):
    return [lot for lot in slow.asks(table.things, most) if slow.independent(table.rows_of(lot))]


class Contracting(slow.Case):
    def test_example(self):
        table = contract(Table.plain(3, 3), (0,))
        self.assertIs(type(table), Table)
        self.assertEqual((table.things, table.columns), (3, 2))
        self.assertEqual(rows_of(table), [[0, 0], [1, 3], [2, 8]])

    def test_edges(self):
        table = Table.plain(4, 3)
        same = contract(table, ())
        self.assertIsNot(same, table)
        self.assertEqual((same.columns, rows_of(same)), (3, rows_of(table)))
        whole = contract(table, (0, 2, 3))
        self.assertEqual((whole.things, whole.columns, rows_of(whole)), (4, 0, [[]] * 4))
        nothing = contract(Table([], 0), ())
        self.assertEqual((nothing.things, nothing.columns), (0, 0))
        none = contract(Table([], 5), ())
        self.assertEqual((none.things, none.columns), (0, 5))
        self.assertEqual(rows_of(contract(Table([[]] * 2, 0), ())), [[], []])

    def test_leading_columns_behind_zeros(self):
        table = Table([[0, 0, 2, 4], [0, 3, 1, 0], [5, 6, 7, 8]], 4)
        # The reduced form of the row of thing 0 is 0, 0, 1, 2.
        self.assertEqual(rows_of(contract(table, (0,))), [[0, 0, 0], [0, 3, 95], [5, 6, 91]])
        self.assertEqual(rows_of(contract(table, (0, 1))), slow_contract(table, (0, 1)))
        self.assertEqual(rows_of(contract(table, (0, 1, 2))), [[0], [0], [0]])

    def test_wrong(self):
        table = Table([[1, 0, 0], [2, 0, 0], [0, 1, 0], [0, 0, 0], [0, 0, 1]], 3)
        for lot in (
            (5,), (-1,), (0, 0), (2, 0), (0, 1), (3,), (0, 3), (0, 2, 4, 4), (0, 1, 2, 4), (0, 2, 4, 5), (10 ** 30,), (0, -1),
        ):
            self.refuse(BadLot, {"lot": lot}, contract, table, lot)
        self.refuse(BadLot, {"lot": (0,)}, contract, Table([], 0), (0,))
        self.refuse(BadLot, {"lot": (0,)}, contract, Table([[]], 0), (0,))
        self.assertEqual(BadLot.__bases__, (ServeError,))
        self.assertEqual(rows_of(table), [[1, 0, 0], [2, 0, 0], [0, 1, 0], [0, 0, 0], [0, 0, 1]])

    def test_drawn(self):
        draw = random.Random(150)
        for _ in range(60):
            table = draw_table(draw, draw.randint(0, 6), draw.randint(0, 4))
            before = rows_of(table)
            for lot in slow.asks(table.things, table.columns + 1):
                if not slow.independent(table.rows_of(lot)):
                    self.refuse(BadLot, {"lot": lot}, contract, table, lot)
                    continue
                found = contract(table, lot)
                self.assertEqual((found.things, found.columns), (table.things, table.columns - len(lot)))
                self.assertEqual(rows_of(found), slow_contract(table, lot))
                self.assertTrue(all(not any(found.row(thing)) for thing in lot))
            self.assertEqual(rows_of(table), before)

    def test_free_in_both_tables(self):
        draw = random.Random(151)
        for _ in range(30):
            table = draw_table(draw, draw.randint(1, 5), draw.randint(1, 4))
            for lot in free_lots(table, table.columns):
                found = contract(table, lot)
                for many in range(table.columns + 1):
                    things = tuple(draw.randrange(table.things) for _ in range(many))
                    told = slow.independent(table.rows_of(lot + things))
                    self.assertIs(found.free(things), told)

    def test_twice(self):
        draw = random.Random(152)
        pairs = 0
        for _ in range(30):
            table = draw_table(draw, draw.randint(2, 6), draw.randint(2, 5))
            for both in free_lots(table, table.columns):
                first = tuple(thing for thing in both if draw.randrange(2))
                second = tuple(thing for thing in both if thing not in first)
                told = rows_of(contract(table, both))
                self.assertEqual(rows_of(contract(contract(table, first), second)), told)
                self.assertEqual(rows_of(contract(contract(table, second), first)), told)
                pairs += 1
        self.assertGreater(pairs, 200)


class Narrowing(slow.Case):
    def test_ordinary(self):
        table = Table.plain(5, 3)
        items = [(1, (0,)), (5, (1,)), (3, (2,)), (4, (3,)), (3, (2,))]
        self.assertEqual(narrowed_list(table, 1, items, (1,)), [(4, (3,)), (3, (2,))])
        self.assertEqual(narrowed_list(table, 1, items, (1, 3)), [(3, (2,))])
        self.assertEqual(narrowed_list(table, 1, items, ()), [(5, (1,)), (4, (3,)), (3, (2,))])
        self.assertEqual(narrowed_list(table, 1, [], (1,)), [])
        self.assertEqual(narrowed_list(table, 0, [(3, ()), (5, ())], (0, 1, 2)), [(5, ())])
        self.assertEqual(items, [(1, (0,)), (5, (1,)), (3, (2,)), (4, (3,)), (3, (2,))])

    def test_wrong(self):
        table = Table.plain(4, 3)
        bad = [(1, (0, 1)), (2, (9,))]
        for known in ((4,), (1, 0), (0, 0), (0, 1, 2, 3), (-1,)):
            for size in (-1, 0, 1, 9):
                self.refuse(BadLot, {"lot": known}, narrowed_list, table, size, bad, known)
        for known, size in (((), 4), ((0,), 3), ((0, 1), 2), ((0, 1, 2), 1), ((0,), -1), ((), 10 ** 30)):
            self.refuse(BadSize, {"size": size}, narrowed_list, table, size, bad, known)
        self.refuse(BadLot, {"lot": (0, 1)}, narrowed_list, table, 1, bad, (0,))
        self.refuse(BadLot, {"lot": (9,)}, narrowed_list, table, 2, bad, (0,))
        self.refuse(BadLot, {"lot": (1, 0)}, narrowed_list, table, 2, [(1, (1, 0))], (0,))
        self.assertEqual(bad, [(1, (0, 1)), (2, (9,))])

    def test_first_fits(self):
        draw = random.Random(153)
        for _ in range(60):
            table = draw_table(draw, draw.randint(2, 6), draw.randint(1, 4))
            known = draw.choice(free_lots(table, table.columns))
            size = draw.randint(0, table.columns - len(known))
            items = slow.draw_items(draw, draw.randint(0, 12) if size <= table.things else 0, table.things, size, 3)
            before = list(items)
            found = narrowed_list(table, size, items, known)
            self.assertEqual(found, slow_kept(contract(table, known), items))
            self.assertTrue(all(item in items and not set(item[1]) & set(known) for item in found))
            for ask in slow.asks(table.things, table.columns - size):
                if set(known) <= set(ask):
                    told = slow.first_fit(table, items, ask)
                    self.assertEqual(slow.first_fit(table, found, ask), told)
            self.assertEqual(narrowed_list(table, size, slow_kept(table, items), known), found)
            self.assertEqual(items, before)
            found.clear()
            self.assertEqual(narrowed_list(table, size, items, known), slow_kept(contract(table, known), items))


class Cutting(slow.Case):
    def test_ordinary(self):
        table = Table.plain(3, 3)
        cut = cut_columns(table, 2)
        self.assertIs(type(cut), Table)
        self.assertEqual((cut.things, cut.columns, rows_of(cut)), (3, 2, [[1, 1], [1, 2], [1, 3]]))
        self.assertEqual(rows_of(cut_columns(table, 3)), rows_of(table))
        none = cut_columns(table, 0)
        self.assertEqual((none.things, none.columns, rows_of(none)), (3, 0, [[], [], []]))
        self.assertEqual(cut_columns(Table([], 0), 0).columns, 0)
        self.assertEqual((table.columns, rows_of(table)), (3, [[1, 1, 1], [1, 2, 4], [1, 3, 9]]))

    def test_wrong(self):
        for columns, cut in ((3, 4), (3, -1), (0, 1), (0, -1), (6, 7), (3, 10 ** 30), (3, -10 ** 30)):
            self.refuse(BadTable, {}, cut_columns, Table.plain(3, columns), cut)
            self.refuse(BadTable, {}, cut_columns, Table([], columns), cut)
        self.assertEqual(BadTable.__bases__, (ServeError,))

    def test_kept_lists(self):
        draw = random.Random(154)
        shorter = 0
        for _ in range(150):
            table = draw_table(draw, draw.randint(1, 6), draw.randint(0, 5))
            columns = draw.randint(0, table.columns)
            cut = cut_columns(table, columns)
            self.assertEqual(rows_of(cut), [row[:columns] for row in rows_of(table)])
            size = draw.randint(0, columns)
            items = slow.draw_items(draw, draw.randint(0, 14) if size <= table.things else 0, table.things, size, 3)
            longer = kept_list(Scheme(table, size), items)
            found = kept_list(Scheme(cut, size), items)
            self.assertTrue(all(item in longer for item in found))
            self.assertEqual(kept_list(Scheme(cut, size), longer), found)
            self.assertEqual(slow_kept(cut, items), found)
            shorter += len(found) < len(longer)
        self.assertGreater(shorter, 5)

    def test_direct_sums_are_tables_too(self):
        table = direct_sum([Table.plain(2, 1), Table.plain(2, 2)])
        self.assertEqual(rows_of(contract(table, (2,))), [[1, 0], [1, 0], [0, 0], [0, 1]])
        self.assertEqual(rows_of(cut_columns(table, 2)), [[1, 0], [1, 0], [0, 1], [0, 1]])
