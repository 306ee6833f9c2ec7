"""Points [9] to [12], and [1] for the rows that are passed and returned."""

import itertools
import random

from fewserve.errors import BadTable
from fewserve.tables import Table
from tests import slow


class Tables(slow.Case):
    def test_ordinary(self):
        table = Table([[1, 2, 3], [97, -1, 10 ** 30 * 97 + 4]], 3)
        self.assertEqual((table.things, table.columns), (2, 3))
        self.assertEqual(table.row(0), [1, 2, 3])
        self.assertEqual(table.row(1), [0, 96, 4])
        self.assertEqual(table.rows_of((1, 0, 1)), [[0, 96, 4], [1, 2, 3], [0, 96, 4]])
        self.assertEqual(table.rows_of(()), [])

    def test_edges(self):
        for things in (0, 1, 12):
            for columns in (0, 1, 6):
                table = Table([[5] * columns] * things, columns)
                self.assertEqual((table.things, table.columns), (things, columns))
                self.assertEqual(table.rows_of(tuple(range(things))), [[5] * columns] * things)

    def test_class_values(self):
        self.assertEqual((Table.MOST_ROWS, Table.MOST_COLUMNS), (12, 6))

    def test_wrong(self):
        for rows, columns in (
            ([[1]] * 13, 1), ([[]] * 13, 0), ([[1] * 7], 7), ([], 7), ([], -1), ([[]], -1), ([], 10 ** 40),
            ([[1, 2]], 1), ([[1]], 2), ([[]], 1), ([[1]], 0), ([[1, 2], [1]], 2), ([[1, 2], [1, 2, 3]], 2),
        ):
            self.refuse(BadTable, {}, Table, rows, columns)

    def test_lists_that_are_passed(self):
        rows = [[100, 2], [3, 4]]
        table = Table(rows, 2)
        self.assertEqual(rows, [[100, 2], [3, 4]])
        rows[0][1] = 50
        rows.append([0, 0])
        self.assertEqual(table.rows_of((0, 1)), [[3, 2], [3, 4]])
        self.assertEqual(table.things, 2)

    def test_lists_that_are_returned(self):
        table = Table([[1, 2], [3, 4]], 2)
        table.row(0)[0] = 50
        rows = table.rows_of((0, 1, 0))
        rows[0][0] = 60
        rows.clear()
        self.assertEqual(table.rows_of((0, 1)), [[1, 2], [3, 4]])
        self.assertEqual(table.show(), " 0:  1  2\n 1:  3  4\n")


class Points(slow.Case):
    def test_points(self):
        table = Table.points([2, -1, 97, 10 ** 30], 4)
        self.assertEqual((table.things, table.columns), (4, 4))
        self.assertEqual(table.row(0), [1, 2, 4, 8])
        self.assertEqual(table.row(1), [1, 96, 1, 96])
        self.assertEqual(table.row(2), [1, 0, 0, 0])
        self.assertEqual(table.row(3), [pow(10 ** 30, k, 97) for k in range(4)])
        self.assertIs(type(table), Table)

    def test_edges(self):
        self.assertEqual(Table.points([], 6).things, 0)
        self.assertEqual(Table.points([], 0).columns, 0)
        self.assertEqual(Table.points([5, 6], 0).rows_of((0, 1)), [[], []])
        self.assertEqual(Table.points([5], 1).row(0), [1])
        table = Table.points(list(range(12)), 6)
        self.assertEqual(table.row(11), [1, 11, 24, 70, 91, 31])

    def test_wrong(self):
        for numbers, columns in (
            ([1, 98], 2), ([1, 98], 0), ([0, 97 * 10 ** 40], 6), ([3, 3], 1), ([-1, 5, 96], 3),
            (list(range(13)), 2), ([1], 7), ([1], -1), ([], 7), ([], -1), ([1], 10 ** 40),
        ):
            self.refuse(BadTable, {}, Table.points, numbers, columns)

    def test_list_that_is_passed(self):
        numbers = [2, 103]
        table = Table.points(numbers, 2)
        self.assertEqual(numbers, [2, 103])
        numbers[0] = 50
        self.assertEqual(table.rows_of((0, 1)), [[1, 2], [1, 6]])

    def test_plain(self):
        table = Table.plain(3, 3)
        self.assertEqual(table.rows_of((0, 1, 2)), [[1, 1, 1], [1, 2, 4], [1, 3, 9]])
        self.assertEqual(Table.plain(0, 0).things, 0)
        self.assertEqual(Table.plain(0, 6).columns, 6)
        self.assertEqual(Table.plain(12, 6).row(11), [1, 12, 47, 79, 75, 27])
        self.assertEqual(Table.plain(12, 0).row(11), [])
        self.assertIs(type(table), Table)

    def test_wrong_plain(self):
        for things, columns in ((13, 2), (10 ** 40, 2), (3, 7), (3, -1), (0, 7), (0, -1), (13, 7)):
            self.refuse(BadTable, {}, Table.plain, things, columns)


class FreeThings(slow.Case):
    def test_edges(self):
        self.assertIs(Table([], 0).free(()), True)
        self.assertIs(Table([[]], 0).free((0,)), False)
        self.assertIs(Table([[0, 97]], 2).free((0,)), False)
        table = Table.plain(12, 6)
        self.assertTrue(table.free((11, 3, 0, 7, 5, 1)))
        self.assertFalse(table.free((0, 1, 2, 3, 4, 5, 6)))
        self.assertFalse(table.free((4, 4)))
        self.assertFalse(table.free((4, 2, 4)))

    def test_points(self):
        table = Table.points([5, 90, -3, 44, 0], 3)
        for size in range(5):
            for things in itertools.product(range(5), repeat=size):
                told = len(things) <= 3 and len(set(things)) == len(things)
                self.assertEqual(table.free(things), told)

    def test_drawn(self):
        draw = random.Random(5)
        for _ in range(200):
            columns = draw.randint(1, 4)
            many = draw.randint(1, 6)
            table = Table(slow.draw_rows(draw, many, columns, -1, 1), columns)
            things = tuple(draw.randrange(many) for _ in range(draw.randint(0, 4)))
            self.assertEqual(table.free(things), slow.independent(table.rows_of(things)))


class Shown(slow.Case):
    def test_show(self):
        table = Table([[1, 96], [10, 0], [97, 5], [1, -1]], 2)
        self.assertEqual(table.show(), " 0:  1 96\n 1: 10  0\n 2:  0  5\n 3:  1 96\n")

    def test_edges(self):
        self.assertEqual(Table([], 4).show(), "")
        self.assertEqual(Table([[], []], 0).show(), " 0:\n 1:\n")
        text = Table([[7]] * 12, 1).show()
        self.assertEqual(text.split("\n")[9:], [" 9:  7", "10:  7", "11:  7", ""])
