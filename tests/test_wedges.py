"""Points [24] to [29], and [1] for the lists that are passed."""

import itertools
import random

from fewserve.errors import BadWedge
from fewserve.schemes import minors
from fewserve.wedges import Wedge
from tests import slow


def places(columns, size):
    return list(itertools.combinations(range(columns), size))


def draw_wedge(draw, columns, size, least=-200, most=200):
    return Wedge(columns, size, [draw.randint(least, most) for _ in places(columns, size)])


def state(wedge):
    return (wedge.columns, wedge.size, list(wedge.parts))


def slow_product(left, right):
    """Divide the columns of each choice in all ways, and count the turned pairs one by one."""
    left_parts = dict(zip(places(left.columns, left.size), left.parts))
    right_parts = dict(zip(places(right.columns, right.size), right.parts))
    parts = []
    for chosen in places(left.columns, left.size + right.size):
        total = 0
        for first in itertools.combinations(chosen, left.size):
            second = tuple(column for column in chosen if column not in first)
            turned = sum(1 for a in first for b in second if b < a)
            total += (-1) ** turned * left_parts[first] * right_parts[second]
        parts.append(total % 97)
    return parts


class Wedges(slow.Case):
    def same(self, left, right):
        self.assertEqual(state(left), state(right))
        self.assertIs(left == right, True)
        self.assertIs(left != right, False)

    def test_attributes(self):
        wedge = Wedge(3, 2, [5, -1, 97 * 10 ** 40 + 2])
        self.assertEqual(state(wedge), (3, 2, [5, 96, 2]))
        self.assertEqual(state(Wedge(0, 0, [98])), (0, 0, [1]))
        self.assertEqual(state(Wedge(6, 0, [0])), (6, 0, [0]))
        self.assertEqual(state(Wedge(6, 6, [3])), (6, 6, [3]))
        self.assertEqual(len(Wedge(6, 3, list(range(20))).parts), 20)

    def test_wrong(self):
        for columns, size, parts in (
            (-1, 0, [1]), (7, 0, [1]), (7, 1, [1] * 7), (10 ** 40, 0, [1]), (3, -1, []), (3, 4, []), (0, 1, []),
            (3, 4, [1]), (3, 10 ** 40, []), (3, 2, [1, 2]), (3, 2, [1, 2, 3, 4]), (3, 0, []), (0, 0, []),
            (0, 0, [1, 2]), (-1, -1, []), (6, 3, [1] * 19),
        ):
            self.refuse(BadWedge, {}, Wedge, columns, size, parts)

    def test_list_that_is_passed(self):
        parts = [1, 98]
        wedge = Wedge(2, 1, parts)
        self.assertEqual(parts, [1, 98])
        self.assertIsNot(wedge.parts, parts)
        parts[0] = 50
        parts.append(3)
        self.assertEqual(state(wedge), (2, 1, [1, 1]))
        self.assertEqual(list(wedge), [((0,), 1), ((1,), 1)])
        self.assertEqual(wedge.part((0,)), 1)

    def test_equality_and_truth(self):
        wedge = Wedge(2, 1, [1, 2])
        self.same(wedge, Wedge(2, 1, [98, -95]))
        for other in (Wedge(2, 1, [1, 3]), Wedge(3, 1, [1, 2, 0]), Wedge(2, 2, [1]), 5, None, [1, 2], "wedge"):
            self.assertIs(wedge == other, False)
            self.assertIs(wedge != other, True)
        self.assertFalse(Wedge(2, 0, [1]) == Wedge(2, 2, [1]))
        self.assertFalse(Wedge(2, 0, [1]) == Wedge(3, 0, [1]))
        self.assertFalse(Wedge(1, 1, [1]) == Wedge(2, 2, [1]))
        self.assertFalse(Wedge(4, 1, [1, 2, 3, 4]) == Wedge(4, 3, [1, 2, 3, 4]))
        self.assertIs(bool(Wedge(2, 1, [0, 97])), False)
        self.assertIs(bool(Wedge(2, 1, [0, 5])), True)
        self.assertIs(bool(Wedge(0, 0, [1])), True)
        self.assertIs(bool(Wedge(0, 0, [0])), False)

    def test_iteration(self):
        wedge = Wedge(3, 2, [5, -1, 0])
        self.assertEqual(list(wedge), [((0, 1), 5), ((0, 2), 96), ((1, 2), 0)])
        self.assertEqual([pair for pair in wedge], list(wedge))
        self.assertEqual(list(Wedge(0, 0, [7])), [((), 7)])
        self.assertEqual(dict(Wedge(2, 2, [7])), {(0, 1): 7})
        for pair in wedge:
            self.assertIs(type(pair), tuple)

    def test_part(self):
        wedge = Wedge(3, 2, [5, -1, 0])
        self.assertEqual([wedge.part(chosen) for chosen in places(3, 2)], [5, 96, 0])
        self.assertEqual(Wedge(3, 0, [4]).part(()), 4)
        for chosen in ((), (0,), (1, 0), (1, 1), (0, 3), (-1, 0), (0, 1, 2), (10 ** 30, 0)):
            self.refuse(BadWedge, {}, wedge.part, chosen)
        self.refuse(BadWedge, {}, Wedge(0, 0, [1]).part, (0,))

    def test_whole(self):
        self.assertEqual(Wedge(3, 3, [-1]).whole, 96)
        self.assertEqual(Wedge(0, 0, [5]).whole, 5)
        for wedge in (Wedge(3, 0, [1]), Wedge(1, 0, [1]), Wedge(3, 2, [1, 2, 3])):
            self.refuse(BadWedge, {}, lambda: wedge.whole)


class Sums(slow.Case):
    def test_ordinary(self):
        left = Wedge(2, 1, [1, 90])
        right = Wedge(2, 1, [5, 10])
        self.assertEqual(state(left + right), (2, 1, [6, 3]))
        self.assertEqual(state(left - right), (2, 1, [93, 80]))
        self.assertEqual(state(-left), (2, 1, [96, 7]))
        self.assertEqual(state(-Wedge(0, 0, [0])), (0, 0, [0]))
        self.assertEqual(state(left * 2), (2, 1, [2, 83]))
        self.assertEqual(state(left * 0), (2, 1, [0, 0]))
        self.assertEqual(state(left * -1), state(-left))
        self.assertEqual(state(left * (97 * 10 ** 40 + 3)), state(left * 3))

    def test_wrong(self):
        for left, right in (
            (Wedge(2, 1, [1, 2]), Wedge(2, 0, [1])), (Wedge(2, 0, [1]), Wedge(3, 0, [1])),
            (Wedge(2, 0, [1]), Wedge(2, 2, [1])), (Wedge(1, 1, [1]), Wedge(2, 2, [1])),
            (Wedge(4, 1, [1] * 4), Wedge(4, 3, [1] * 4)),
        ):
            for first, second in ((left, right), (right, left)):
                self.refuse(BadWedge, {}, lambda: first + second)
                self.refuse(BadWedge, {}, lambda: first - second)

    def test_nothing_changes(self):
        left = Wedge(3, 1, [1, 90, 4])
        right = Wedge(3, 1, [5, 10, 0])
        before = state(left), state(right)
        results = [left + right, left - right, -left, left * 5, left ^ right, left * 1, right + Wedge(3, 1, [0] * 3)]
        bool(left), left == right, list(left), left.part((1,))
        self.assertEqual((state(left), state(right)), before)
        for result in results:
            self.assertIsNot(result.parts, left.parts)
            self.assertIsNot(result.parts, right.parts)
        total = left
        total += right
        total ^= right
        self.assertEqual((state(left), state(right)), before)
        self.refuse(BadWedge, {}, lambda: total ^ total)
        self.assertEqual((state(left), state(right)), before)


class Products(slow.Case):
    def test_ordinary(self):
        self.assertEqual(state(Wedge(2, 1, [2, 3]) ^ Wedge(2, 1, [5, 7])), (2, 2, [96]))
        self.assertEqual(state(Wedge(0, 0, [5]) ^ Wedge(0, 0, [20])), (0, 0, [3]))
        unit = Wedge(3, 0, [2])
        wedge = Wedge(3, 1, [1, 2, 3])
        self.assertEqual(state(unit ^ wedge), (3, 1, [2, 4, 6]))
        self.assertEqual(state(wedge ^ unit), (3, 1, [2, 4, 6]))
        self.assertEqual(state(wedge ^ Wedge(3, 2, [4, 5, 6])), (3, 3, [8]))
        self.assertEqual(state(wedge ^ wedge), (3, 2, [0, 0, 0]))

    def test_wrong(self):
        for left, right in (
            (Wedge(2, 1, [1, 2]), Wedge(2, 2, [1])), (Wedge(2, 1, [1, 2]), Wedge(3, 1, [1, 2, 3])),
            (Wedge(0, 0, [1]), Wedge(1, 0, [1])), (Wedge(6, 4, [1] * 15), Wedge(6, 3, [1] * 20)),
            (Wedge(1, 1, [1]), Wedge(1, 1, [1])), (Wedge(2, 2, [1]), Wedge(6, 2, [1] * 15)),
        ):
            self.refuse(BadWedge, {}, lambda: left ^ right)
            self.refuse(BadWedge, {}, lambda: right ^ left)

    def test_against_the_slow_way(self):
        draw = random.Random(15)
        for columns in range(7):
            for size in range(columns + 1):
                for other in range(columns - size + 1):
                    left = draw_wedge(draw, columns, size)
                    right = draw_wedge(draw, columns, other)
                    product = left ^ right
                    self.assertEqual(state(product), (columns, size + other, slow_product(left, right)))

    def test_turned_round(self):
        draw = random.Random(16)
        for _ in range(60):
            columns = draw.randint(0, 6)
            size = draw.randint(0, columns)
            other = draw.randint(0, columns - size)
            left = draw_wedge(draw, columns, size)
            right = draw_wedge(draw, columns, other)
            product = left ^ right
            self.assertTrue((right ^ left) == (product if size * other % 2 == 0 else -product))

    def test_associative_and_linear(self):
        draw = random.Random(17)
        for _ in range(60):
            columns = draw.randint(0, 6)
            size = draw.randint(0, columns)
            other = draw.randint(0, columns - size)
            third = draw.randint(0, columns - size - other)
            a, b = draw_wedge(draw, columns, size), draw_wedge(draw, columns, size)
            c = draw_wedge(draw, columns, other)
            d = draw_wedge(draw, columns, third)
            number = draw.randint(-10 ** 30, 10 ** 30)
            self.assertTrue(((a ^ c) ^ d) == (a ^ (c ^ d)))
            self.assertTrue(((a + b) ^ c) == (a ^ c) + (b ^ c))
            self.assertTrue(((a - b) ^ c) == (a ^ c) - (b ^ c))
            self.assertTrue((c ^ (a + b)) == (c ^ a) + (c ^ b))
            self.assertTrue(((a * number) ^ c) == (a ^ c) * number)
            self.assertTrue((c ^ (a * number)) == (c ^ a) * number)


class WedgesOfRows(slow.Case):
    def test_edges(self):
        for columns in range(7):
            self.assertEqual(state(Wedge.of_rows([], columns)), (columns, 0, [1]))
        self.assertEqual(state(Wedge.of_rows([[5, -1, 97]], 3)), (3, 1, [5, 96, 0]))
        self.assertEqual(state(Wedge.of_rows([[2, 3], [5, 7]], 2)), (2, 2, [96]))
        self.assertIs(type(Wedge.of_rows([[1]], 1)), Wedge)

    def test_wrong(self):
        for rows, columns in (
            ([], -1), ([], 7), ([[1] * 7], 7), ([], 10 ** 40), ([[]], 0), ([[1]], 0), ([[1], [2]], 1),
            ([[1, 2]], 1), ([[1]], 2), ([[]], 1), ([[1, 2], [3]], 2), ([[1, 2, 3], [4, 5]], 3),
            ([[1, 2], [3, 4], [5, 6]], 2), ([[0, 0], [0, 0], [0]], 2),
        ):
            self.refuse(BadWedge, {}, Wedge.of_rows, rows, columns)

    def test_drawn(self):
        draw = random.Random(18)
        for least, most in ((-10 ** 15, 10 ** 15), (-1, 1)):
            for _ in range(60):
                columns = draw.randint(0, 5)
                rows = slow.draw_rows(draw, draw.randint(0, columns), columns, least, most)
                copy = [list(row) for row in rows]
                wedge = Wedge.of_rows(rows, columns)
                self.assertEqual(state(wedge), (columns, len(rows), slow.minors(rows, columns)))
                self.assertEqual(wedge.parts, minors(rows, columns))
                self.assertEqual(bool(wedge), slow.independent(rows))
                self.assertEqual(rows, copy)

    def test_both_lists_together(self):
        draw = random.Random(19)
        for _ in range(60):
            columns = draw.randint(0, 6)
            rows = slow.draw_rows(draw, draw.randint(0, columns), columns, -50, 50)
            at = draw.randint(0, len(rows))
            product = Wedge.of_rows(rows[:at], columns) ^ Wedge.of_rows(rows[at:], columns)
            self.assertTrue(product == Wedge.of_rows(rows, columns))

    def test_whole_is_the_determinant(self):
        draw = random.Random(20)
        for columns in range(7):
            for least, most in ((0, 96), (-1, 1)):
                rows = slow.draw_rows(draw, columns, columns, least, most)
                self.assertEqual(Wedge.of_rows(rows, columns).whole, slow.det(rows))

    def test_lists_that_are_passed(self):
        rows = [[1, 2, 3]]
        wedge = Wedge.of_rows(rows, 3)
        rows[0][0] = 50
        rows.append([0, 0, 1])
        self.assertEqual(state(wedge), (3, 1, [1, 2, 3]))
