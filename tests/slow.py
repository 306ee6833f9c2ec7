"""Slow ways to count what the program counts, and a base class for the tests.

Nothing here uses the program: determinants are sums over all orders, and rows are independent
if some minor of all of them is not 0.
"""

import itertools
import unittest

PRIME = 97


def det(rows):
    total = 0
    for order in itertools.permutations(range(len(rows))):
        turned = sum(1 for i, j in itertools.combinations(order, 2) if i > j)
        product = (-1) ** turned
        for row, column in zip(rows, order):
            product *= row[column]
        total += product
    return total % PRIME


def minors(rows, columns):
    found = []
    for chosen in itertools.combinations(range(columns), len(rows)):
        found.append(det([[row[column] for column in chosen] for row in rows]))
    return found


def independent(rows):
    return not rows or any(minors(rows, len(rows[0])))


def independent_indexes(rows):
    found = []
    for index in range(len(rows)):
        if independent([rows[k] for k in found] + [rows[index]]):
            found.append(index)
    return found


def rank_order(items):
    """Put each item in front of the first one that does not rank before it."""
    found = []
    for worth, lot in items:
        if (worth, lot) in found:
            continue
        at = 0
        while at < len(found) and (found[at][0] > worth or found[at][0] == worth and found[at][1] < lot):
            at += 1
        found.insert(at, (worth, lot))
    return found


def kept_list(rows_of_lot, items):
    """Keep an item if its row is independent of the rows that are kept before it."""
    order = rank_order(items)
    return [order[k] for k in independent_indexes([rows_of_lot(lot) for _, lot in order])]


def fits(table, lot, ask):
    return independent(table.rows_of(lot) + table.rows_of(ask))


def first_fit(table, items, ask):
    fitting = [item for item in items if fits(table, item[1], ask)]
    return rank_order(fitting)[0] if fitting else None


def asks(things, most):
    return [ask for size in range(most + 1) for ask in itertools.combinations(range(things), size)]


def draw_rows(draw, many, columns, least=0, most=96):
    return [[draw.randint(least, most) for _ in range(columns)] for _ in range(many)]


def draw_items(draw, many, things, size, worths=5):
    lots = list(itertools.combinations(range(things), size))
    return [(draw.randint(-worths, worths), draw.choice(lots)) for _ in range(many)]


class Case(unittest.TestCase):
    """A test case that looks at the attributes of errors, too."""

    def refuse(self, error, attributes, call, *args, **named):
        """Assert that the call raises exactly this error, with exactly these attributes."""
        with self.assertRaises(error) as caught:
            call(*args, **named)
        self.assertIs(type(caught.exception), error)
        self.assertEqual(vars(caught.exception), attributes)
