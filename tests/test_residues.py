"""Points [3] to [5], and [1] for the rows that are passed and returned."""

import random

from fewserve.errors import NoInverse
from fewserve.residues import PRIME, combine, dot, independent, independent_indexes, inverse, relation
from tests import slow


class Numbers(slow.Case):
    def test_prime(self):
        self.assertEqual(PRIME, 97)

    def test_inverse(self):
        for number in [*range(1, 97), *range(-96, 0), 98, 97 * 10 ** 30 + 5, -(10 ** 300)]:
            self.assertIn(inverse(number), range(1, 97))
            self.assertEqual(number * inverse(number) % 97, 1)
        self.assertEqual(inverse(1), 1)
        self.assertEqual(inverse(2), 49)
        self.assertEqual(inverse(-1), 96)

    def test_no_inverse(self):
        for number in (0, 97, -97, 97 * 5, 97 * 10 ** 5000, -97 * 10 ** 40):
            self.refuse(NoInverse, {"number": number}, inverse, number)

    def test_dot(self):
        self.assertEqual(dot([], []), 0)
        self.assertEqual(dot([1, 2, 3], [4, 5, 6]), 32)
        self.assertEqual(dot([96, 1], [1, 1]), 0)
        self.assertEqual(dot([-1], [1]), 96)
        self.assertEqual(dot([97 * 10 ** 50 + 2, 97], [-3, 10 ** 60]), 91)

    def test_combine(self):
        self.assertEqual(combine([], [], 3), [0, 0, 0])
        self.assertEqual(combine([], [], 0), [])
        self.assertEqual(combine([5, -1], [[], []], 0), [])
        self.assertEqual(combine([2, -1], [[1, 2, 3], [5, 5, 5]], 3), [94, 96, 1])
        self.assertEqual(combine([97, 10 ** 40 * 97 + 1], [[1, 2], [-1, 98]], 2), [96, 1])


class Independence(slow.Case):
    def test_edges(self):
        self.assertTrue(independent([]))
        self.assertEqual(independent_indexes([]), [])
        self.assertFalse(independent([[]]))
        self.assertEqual(independent_indexes([[], []]), [])
        self.assertFalse(independent([[0, 0]]))
        self.assertFalse(independent([[97, -97]]))
        self.assertTrue(independent([[97, 10 ** 40]]))
        self.assertIs(independent([[1]]), True)
        self.assertIs(independent([[1], [1]]), False)

    def test_indexes(self):
        rows = [[0, 0, 0], [1, 2, 3], [2, 4, 6], [0, 0, 5], [-1, -2, 10 ** 30], [0, 1, 0], [7, 7, 7]]
        self.assertEqual(independent_indexes(rows), [1, 3, 5])
        self.assertEqual(independent_indexes([[1, 1], [98, -96]]), [0])

    def test_first_leading_columns_may_descend(self):
        self.assertEqual(independent_indexes([[0, 0, 1], [0, 1, 1], [1, 1, 1], [5, 6, 7]]), [0, 1, 2])

    def test_forty_columns_and_four_hundred_rows(self):
        units = [[1 if at == column else 0 for at in range(40)] for column in range(40)]
        self.assertTrue(independent(units))
        rows = [units[k // 10] for k in range(400)]
        self.assertEqual(independent_indexes(rows), list(range(0, 400, 10)))
        self.assertEqual(relation(rows), [96, 1] + [0] * 398)

    def test_drawn(self):
        draw = random.Random(1)
        for _ in range(300):
            columns = draw.randint(1, 4)
            rows = slow.draw_rows(draw, draw.randint(0, 6), columns, -2, 2)
            self.assertEqual(independent_indexes(rows), slow.independent_indexes(rows))
            self.assertEqual(independent(rows), slow.independent_indexes(rows) == list(range(len(rows))))


class FirstRelation(slow.Case):
    def test_none(self):
        self.assertIsNone(relation([]))
        self.assertIsNone(relation([[1, 5]]))
        self.assertIsNone(relation([[1, 5], [1, 6]]))

    def test_edges(self):
        self.assertEqual(relation([[]]), [1])
        self.assertEqual(relation([[], []]), [1, 0])
        self.assertEqual(relation([[0, 0], [1, 1]]), [1, 0])
        self.assertEqual(relation([[1, 1], [97, -97], [1, 1]]), [0, 1, 0])

    def test_ordinary(self):
        self.assertEqual(relation([[1, 1], [1, 2], [1, 3]]), [1, 95, 1])
        self.assertEqual(relation([[2], [1], [5]]), [48, 1, 0])
        self.assertEqual(relation([[10 ** 40 * 97 + 1], [-1]]), [1, 1])

    def test_drawn(self):
        draw = random.Random(2)
        for _ in range(300):
            columns = draw.randint(1, 4)
            rows = slow.draw_rows(draw, draw.randint(0, 6), columns, -2, 2)
            indexes = slow.independent_indexes(rows)
            left = [k for k in range(len(rows)) if k not in indexes]
            found = relation(rows)
            if not left:
                self.assertIsNone(found)
                continue
            self.assertEqual(len(found), len(rows))
            self.assertEqual(found[left[0]:], [1] + [0] * (len(rows) - left[0] - 1))
            self.assertTrue(all(0 <= number <= 96 for number in found))
            for column in range(columns):
                self.assertEqual(sum(k * row[column] for k, row in zip(found, rows)) % 97, 0)


class Lists(slow.Case):
    def test_arguments_stay(self):
        rows = [[1, 99, -1], [2, 198, -2], [0, 0, 10 ** 20]]
        copy = [list(row) for row in rows]
        coefficients = [-1, 100, 5]
        independent(rows)
        independent_indexes(rows)
        relation(rows)
        combine(coefficients, rows, 3)
        dot(rows[0], rows[1])
        self.assertEqual(rows, copy)
        self.assertEqual(coefficients, [-1, 100, 5])

    def test_returned_lists_are_new(self):
        rows = [[1, 2], [2, 4]]
        for call in (independent_indexes, relation):
            first = call(rows)
            first.append("changed")
            self.assertNotEqual(call(rows), first)
        combined = combine([1, 0], rows, 2)
        combined[0] = 50
        self.assertEqual(rows, [[1, 2], [2, 4]])
        self.assertEqual(combine([1, 0], rows, 2), [1, 2])
