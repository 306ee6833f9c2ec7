"""Points [43] to [46]."""

import itertools
import random

from fewserve.errors import DependentRow
from fewserve.spans import Span
from tests import slow


def total(coefficients, rows, width):
    return [sum(c * row[at] for c, row in zip(coefficients, rows)) % 97 for at in range(width)]


def draw_span(draw):
    """Return a drawn width, rows that are independent, and their span."""
    width = draw.randint(0, 4)
    rows = []
    for row in slow.draw_rows(draw, draw.randint(0, 5), width, -2, 2):
        if slow.independent(rows + [row]):
            rows.append(row)
    return width, rows, Span(width, rows)


def residues(rows):
    return [[number % 97 for number in row] for row in rows]


class Spans(slow.Case):
    def test_rows(self):
        self.assertEqual(Span(3).rows, [])
        self.assertEqual(Span(3, []).rows, [])
        self.assertEqual(Span(3, ()).rows, [])
        span = Span(2, [[-1, 97], [10 ** 30, 1]])
        self.assertEqual(span.rows, [[96, 0], [10 ** 30 % 97, 1]])
        self.assertEqual(Span(2, ([1, 2], [3, 4])).rows, [[1, 2], [3, 4]])
        self.assertEqual(len(span), 2)
        self.assertEqual(len(Span(0)), 0)

    def test_dependent_rows(self):
        for width, rows in (
            (0, [[]]), (1, [[0]]), (1, [[97]]), (1, [[1], [5]]), (2, [[1, 2], [3, 4], [5, 6]]), (2, [[1, 2], [98, -95]]),
            (3, [[1, 1, 0], [0, 1, 1], [1, 2, 1]]), (3, [[1, 0, 0], [0, 0, 0]]),
        ):
            self.refuse(DependentRow, {}, Span, width, rows)
            self.refuse(DependentRow, {}, Span, width, tuple(rows))
            span = Span(width, rows[:-1])
            before = span.rows
            self.refuse(DependentRow, {}, span.add, rows[-1])
            self.assertEqual(span.rows, before)
            self.assertEqual(len(span), len(rows) - 1)
            self.assertEqual(span.coefficients([0] * width), [0] * len(span))

    def test_add(self):
        span = Span(3)
        self.assertIsNone(span.add([0, 0, 2]))
        self.assertEqual(span.rows, [[0, 0, 2]])
        self.assertIsNone(span.add([-1, 0, 5]))
        self.assertEqual(span.rows, [[0, 0, 2], [96, 0, 5]])
        self.assertEqual(len(span), 2)
        self.refuse(DependentRow, {}, span.add, [-1, 0, 6])
        self.assertIsNone(span.add([0, 10 ** 20, 0]))
        self.assertEqual(len(span), 3)
        self.refuse(DependentRow, {}, span.add, [1, 2, 3])

    def test_width_40(self):
        units = [[1 if at == k else 0 for at in range(40)] for k in range(40)]
        span = Span(40, units)
        row = list(range(-20, 20))
        self.assertEqual(span.coefficients(row), [number % 97 for number in row])
        self.refuse(DependentRow, {}, span.add, row)
        self.assertIsNone(span.replace(39, row))
        # The last unit row is now a nineteenth of the new row and the other unit rows.
        self.assertEqual(span.coefficients(row), [0] * 39 + [1])
        told = span.coefficients(units[39])
        self.assertEqual(total(told, span.rows, 40), units[39])

    def test_coefficients(self):
        span = Span(3, [[1, 2, 3], [0, 1, 1]])
        self.assertEqual(span.coefficients([2, 7, 9]), [2, 3])
        self.assertEqual(span.coefficients([0, 0, 0]), [0, 0])
        self.assertEqual(span.coefficients([0, -1, -1]), [0, 96])
        self.assertEqual(span.coefficients([97, 10 ** 20, 10 ** 20]), [0, 10 ** 20 % 97])
        self.assertIsNone(span.coefficients([0, 0, 1]))
        self.assertIsNone(span.coefficients([2, 7, 10]))

    def test_edges_of_coefficients(self):
        empty = Span(2)
        self.assertEqual(empty.coefficients([0, 97]), [])
        self.assertIsNone(empty.coefficients([0, 1]))
        self.assertEqual(Span(0).coefficients([]), [])
        self.assertIs([] in Span(0), True)
        self.assertIs([0, 0] in empty, True)
        self.assertIs([0, 1] in empty, False)
        self.assertIs([0, -97] in Span(2, [[1, 1]]), True)

    def test_drawn_coefficients(self):
        draw = random.Random(50)
        for _ in range(300):
            width, rows, span = draw_span(draw)
            self.assertEqual(span.rows, residues(rows))
            for row in slow.draw_rows(draw, 4, width, -3, 3) + [total([draw.randint(0, 96) for _ in rows], rows, width)]:
                copy = list(row)
                told = span.coefficients(row)
                inside = not slow.independent(rows + [row])
                self.assertEqual(told is not None, inside)
                self.assertIs(row in span, inside)
                if inside:
                    self.assertEqual(len(told), len(rows))
                    self.assertTrue(all(0 <= number < 97 for number in told))
                    self.assertEqual(total(told, rows, width), [number % 97 for number in row])
                    told.append("changed")
                    self.assertEqual(len(span.coefficients(row)), len(rows))
                self.assertEqual(row, copy)

    def test_all_rows_of_a_small_span(self):
        span = Span(2, [[3, 5]])
        inside = [[3 * k % 97, 5 * k % 97] for k in range(97)]
        for row in itertools.product(range(97), repeat=2):
            self.assertEqual(list(row) in span, list(row) in inside)


class Replacing(slow.Case):
    def test_ordinary(self):
        span = Span(3, [[1, 0, 0], [0, 1, 0]])
        self.assertIsNone(span.replace(0, [2, 3, 0]))
        self.assertEqual(span.rows, [[2, 3, 0], [0, 1, 0]])
        self.assertEqual(span.coefficients([2, 4, 0]), [1, 1])
        self.assertIsNone(span.replace(1, [-1, 0, 97]))
        self.assertEqual(span.rows, [[2, 3, 0], [96, 0, 0]])
        self.assertEqual(span.coefficients([2, 3, 0]), [1, 0])
        self.assertIsNone(span.replace(1, [96, 0, 0]))
        self.assertEqual(span.rows, [[2, 3, 0], [96, 0, 0]])

    def test_refused(self):
        span = Span(3, [[1, 0, 0], [0, 1, 0]])
        for index, row in (
            (-1, [1, 1, 0]), (2, [1, 1, 0]), (10 ** 30, [1, 1, 0]), (-(10 ** 30), [1, 1, 0]), (0, [0, 0, 1]),
            (0, [1, 0, 1]), (0, [0, 5, 0]), (1, [5, 0, 0]), (0, [0, 0, 0]), (1, [97, -97, 0]), (-2, [1, 1, 0]),
        ):
            self.refuse(DependentRow, {}, span.replace, index, row)
            self.assertEqual(span.rows, [[1, 0, 0], [0, 1, 0]])
            self.assertEqual(span.coefficients([7, 9, 0]), [7, 9])
        self.refuse(DependentRow, {}, Span(2).replace, 0, [1, 1])
        self.refuse(DependentRow, {}, Span(2).replace, 0, [0, 0])
        self.refuse(DependentRow, {}, Span(0).replace, 0, [])

    def test_drawn(self):
        draw = random.Random(51)
        exchanged = refused = 0
        for _ in range(300):
            width, rows, span = draw_span(draw)
            for _ in range(4):
                index = draw.randint(-1, len(rows))
                row = draw.choice(slow.draw_rows(draw, 1, width, -2, 2) + rows)
                others = rows[:max(index, 0)] + rows[index + 1:]
                right = 0 <= index < len(rows) and not slow.independent(rows + [row])
                # The coefficient at the index is 0 exactly if the other rows alone make the row.
                if right and slow.independent(others + [row]):
                    self.assertIsNone(span.replace(index, row))
                    rows[index] = row
                    exchanged += 1
                else:
                    self.refuse(DependentRow, {}, span.replace, index, row)
                    refused += 1
                self.assertEqual(span.rows, residues(rows))
                self.assertEqual(len(span), len(rows))
                for other in slow.draw_rows(draw, 3, width, -2, 2):
                    told = Span(width, rows).coefficients(other)
                    self.assertEqual(span.coefficients(other), told)
                    self.assertEqual(other in span, not slow.independent(rows + [other]))
                    if told is not None:
                        self.assertEqual(total(told, rows, width), residues([other])[0])
        self.assertGreater(exchanged, 100)
        self.assertGreater(refused, 100)

    def test_adding_after_replacing(self):
        span = Span(3, [[1, 0, 0], [0, 1, 0]])
        span.replace(0, [4, 1, 0])
        self.refuse(DependentRow, {}, span.add, [1, 0, 0])
        span.add([1, 1, 1])
        self.assertEqual(span.coefficients([5, 3, 1]), [1, 1, 1])
        self.assertEqual(len(span), 3)


class Lists(slow.Case):
    def test_lists_that_are_passed(self):
        first = [1, 2]
        rows = [first]
        span = Span(2, rows)
        second = [0, 1]
        span.add(second)
        third = [5, 11]
        span.replace(1, third)
        self.assertEqual((rows, first, second, third), ([[1, 2]], [1, 2], [0, 1], [5, 11]))
        for changed in (first, second, third, rows):
            changed[0] = 50
            changed.clear()
        self.assertEqual(span.rows, [[1, 2], [5, 11]])
        self.assertEqual(span.coefficients([6, 13]), [1, 1])

    def test_lists_that_are_returned(self):
        span = Span(2, [[1, 2], [0, 1]])
        rows = span.rows
        rows[0][0] = 50
        rows.clear()
        self.assertEqual(span.rows, [[1, 2], [0, 1]])
        span.coefficients([1, 2]).clear()
        self.assertEqual(span.coefficients([1, 2]), [1, 0])

    def test_spans_are_independent_of_each_other(self):
        first = Span(2)
        second = Span(2)
        first.add([1, 0])
        self.assertEqual((len(first), len(second)), (1, 0))
        self.assertNotIn([1, 0], second)
