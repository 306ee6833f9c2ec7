"""Points [21] to [23], and [1] for the lists that are passed and returned."""

import itertools
import random

from fewserve.dets import det_by_orders, determinant, difference_product, signed_orders
from fewserve.errors import BadTable
from fewserve.residues import independent
from fewserve.tables import Table
from tests import slow

NO_SQUARES = [
    [[]], [[], []], [[1, 2]], [[1], [2]], [[1, 2], [3]], [[1], [2, 3]], [[1, 2], [3, 4, 5]], [[1, 2, 3], [4, 5, 6]],
    [[1, 2], [3, 4], [5, 6]], [[0, 0, 0], [0, 0, 0], [0, 0]],
]


class Orders(slow.Case):
    def test_ordinary(self):
        self.assertEqual(signed_orders(0), [((), 1)])
        self.assertEqual(signed_orders(1), [((0,), 1)])
        self.assertEqual(signed_orders(2), [((0, 1), 1), ((1, 0), -1)])
        self.assertEqual(
            signed_orders(3),
            [((0, 1, 2), 1), ((0, 2, 1), -1), ((1, 0, 2), -1), ((1, 2, 0), 1), ((2, 0, 1), 1), ((2, 1, 0), -1)],
        )

    def test_all(self):
        for count in range(7):
            orders = list(itertools.permutations(range(count)))
            found = signed_orders(count)
            self.assertEqual([order for order, _ in found], orders)
            for order, sign in found:
                turned = [1 for i, j in itertools.combinations(order, 2) if i > j]
                self.assertEqual(sign, 1 if len(turned) % 2 == 0 else -1)

    def test_returned_list_is_new(self):
        signed_orders(2).clear()
        self.assertEqual(len(signed_orders(2)), 2)


class Determinants(slow.Case):
    def test_edges(self):
        for det in (det_by_orders, determinant):
            self.assertEqual(det([]), 1)
            self.assertEqual(det([[5]]), 5)
            self.assertEqual(det([[-1]]), 96)
            self.assertEqual(det([[97 * 10 ** 40]]), 0)
            self.assertEqual(det([[2, 3], [5, 7]]), 96)
            self.assertEqual(det([[0, 1], [1, 0]]), 96)
            self.assertEqual(det([[0, 1, 0], [0, 0, 1], [1, 0, 0]]), 1)
            self.assertEqual(det([[1, 2], [98, -95]]), 0)
            self.assertEqual(det([[10 ** 30, 0], [5, 10 ** 30]]), pow(10, 60, 97))

    def test_no_squares(self):
        for rows in NO_SQUARES:
            self.refuse(BadTable, {}, det_by_orders, rows)
            self.refuse(BadTable, {}, determinant, rows)

    def test_drawn(self):
        draw = random.Random(11)
        for least, most in ((0, 96), (-2, 2), (-1, 1), (-10 ** 20, 10 ** 20)):
            for _ in range(60):
                many = draw.randint(0, 5)
                rows = slow.draw_rows(draw, many, many, least, most)
                copy = [list(row) for row in rows]
                told = slow.det(rows)
                self.assertEqual(det_by_orders(rows), told)
                self.assertEqual(determinant(rows), told)
                self.assertEqual(told == 0, not independent(rows))
                self.assertEqual(rows, copy)

    def test_six_rows(self):
        draw = random.Random(12)
        for least, most in ((0, 96), (-1, 1), (0, 1)):
            for _ in range(6):
                rows = slow.draw_rows(draw, 6, 6, least, most)
                self.assertEqual(determinant(rows), slow.det(rows))


class DifferenceProducts(slow.Case):
    def test_edges(self):
        self.assertEqual(difference_product([]), 1)
        self.assertEqual(difference_product([5]), 1)
        self.assertEqual(difference_product([97]), 1)
        self.assertEqual(difference_product([2, 5]), 3)
        self.assertEqual(difference_product([5, 2]), 94)
        self.assertEqual(difference_product([1, 2, 4]), 6)
        self.assertEqual(difference_product([1, 5, 98]), 0)
        self.assertEqual(difference_product([-1, 10 ** 30, 3]), (10 ** 30 + 1) * 4 * (3 - 10 ** 30) % 97)

    def test_drawn(self):
        draw = random.Random(13)
        for _ in range(100):
            numbers = [draw.randint(-60, 60) for _ in range(draw.randint(0, 12))]
            copy = list(numbers)
            told = 1
            for first, second in itertools.combinations(numbers, 2):
                told = told * (second - first) % 97
            self.assertEqual(difference_product(numbers), told)
            self.assertEqual(told == 0, len({number % 97 for number in numbers}) < len(numbers))
            self.assertEqual(numbers, copy)

    def test_is_the_determinant_of_points(self):
        draw = random.Random(14)
        for many in range(7):
            numbers = draw.sample(range(-40, 57), many)
            rows = Table.points(numbers, many).rows_of(tuple(range(many)))
            self.assertEqual(difference_product(numbers), determinant(rows))
