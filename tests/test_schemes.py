"""Points [13] to [18], and [1] and [2] for schemes."""

import itertools
import random

from fewserve.errors import BadAsk, BadLot, BadSize
from fewserve.schemes import Scheme, first_fit, kept_list, minors
from fewserve.tables import Table
from tests import slow

# Tuples that are no lots of two things and no asks, over a table of four things.
SPOILT_PAIRS = [(1, 0), (1, 1), (0, 4), (-1, 2), (2, 10 ** 30), (-(10 ** 30), 0)]


def draw_scheme(draw, most_columns=4, most_things=5):
    """Return a drawn scheme; small numbers make many things that are not free."""
    columns = draw.randint(0, most_columns)
    size = draw.randint(0, columns)
    things = draw.randint(size, most_things)
    if draw.randrange(3) == 0:
        table = Table.points(draw.sample(range(97), things), columns)
    else:
        table = Table(slow.draw_rows(draw, things, columns, -1, 1), columns)
    return Scheme(table, size)


class Minors(slow.Case):
    def test_edges(self):
        self.assertEqual(minors([], 0), [1])
        self.assertEqual(minors([], 6), [1])
        self.assertEqual(minors([[5, -1, 97]], 3), [5, 96, 0])
        self.assertEqual(minors([[2, 3], [5, 7]], 2), [96])
        self.assertEqual(minors([[5, 7], [2, 3]], 2), [1])
        self.assertEqual(minors([[1, 0, 0], [0, 1, 0]], 3), [1, 0, 0])
        self.assertEqual(len(minors([[1] * 6] * 3, 6)), 20)

    def test_drawn(self):
        draw = random.Random(6)
        for _ in range(150):
            columns = draw.randint(0, 6)
            rows = slow.draw_rows(draw, draw.randint(0, min(columns, 5)), columns, -10 ** 20, 10 ** 20)
            copy = [list(row) for row in rows]
            found = minors(rows, columns)
            self.assertEqual(found, slow.minors(rows, columns))
            self.assertEqual(rows, copy)
            found.append("changed")
            self.assertEqual(minors(rows, columns), slow.minors(rows, columns))


class Schemes(slow.Case):
    def test_attributes(self):
        table = Table.plain(12, 6)
        widths = [1, 6, 15, 20, 15, 6, 1]
        for size in range(7):
            scheme = Scheme(table, size)
            self.assertIs(scheme.table, table)
            self.assertEqual((scheme.size, scheme.spare, scheme.width), (size, 6 - size, widths[size]))
        empty = Scheme(Table([], 0), 0)
        self.assertEqual((empty.size, empty.spare, empty.width), (0, 0, 1))

    def test_bad_sizes(self):
        for size in (-1, 4, 10 ** 5000, -(10 ** 30)):
            self.refuse(BadSize, {"size": size}, Scheme, Table.plain(5, 3), size)
        self.refuse(BadSize, {"size": 1}, Scheme, Table([], 0), 1)

    def test_check(self):
        scheme = Scheme(Table.plain(4, 3), 2)
        for lot in itertools.combinations(range(4), 2):
            self.assertIsNone(scheme.check(lot))
        for lot in [*SPOILT_PAIRS, (), (0,), (0, 1, 2)]:
            self.refuse(BadLot, {"lot": lot}, scheme.check, lot)
            self.refuse(BadLot, {"lot": lot}, scheme.row, lot)

    def test_check_ask(self):
        scheme = Scheme(Table.plain(4, 3), 1)
        for ask in slow.asks(4, 2):
            self.assertIsNone(scheme.check_ask(ask))
        for ask in [*SPOILT_PAIRS, (4,), (-1,), (0, 1, 2)]:
            self.refuse(BadAsk, {"ask": ask}, scheme.check_ask, ask)
            self.refuse(BadAsk, {"ask": ask}, scheme.corow, ask)

    def test_edges_of_checks(self):
        empty = Scheme(Table([], 0), 0)
        self.assertIsNone(empty.check(()))
        self.assertIsNone(empty.check_ask(()))
        self.refuse(BadLot, {"lot": (0,)}, empty.check, (0,))
        self.refuse(BadAsk, {"ask": (0,)}, empty.check_ask, (0,))
        great = Scheme(Table.plain(12, 6), 6)
        self.assertIsNone(great.check((0, 1, 2, 3, 10, 11)))
        self.refuse(BadLot, {"lot": (0, 1, 2, 3, 11, 12)}, great.check, (0, 1, 2, 3, 11, 12))
        self.refuse(BadAsk, {"ask": (0,)}, great.check_ask, (0,))


class Rows(slow.Case):
    def test_row(self):
        scheme = Scheme(Table.plain(3, 3), 2)
        self.assertEqual(scheme.row((0, 1)), [1, 3, 2])
        self.assertEqual(scheme.row((1, 2)), [1, 5, 6])
        self.assertEqual(Scheme(Table.plain(3, 3), 0).row(()), [1])
        self.assertEqual(Scheme(Table.plain(3, 3), 3).row((0, 1, 2)), [2])
        self.assertEqual(Scheme(Table([], 0), 0).row(()), [1])

    def test_corow(self):
        scheme = Scheme(Table.plain(3, 3), 2)
        # The chosen columns are 01, 02 and 12, so the others are 2, 1 and 0.
        self.assertEqual(scheme.corow((1,)), [4, 95, 1])
        self.assertEqual(Scheme(Table.plain(3, 3), 3).corow(()), [1])
        self.assertEqual(Scheme(Table.plain(3, 3), 0).corow((0, 1, 2)), [2])
        self.assertEqual(Scheme(Table([], 0), 0).corow(()), [1])

    def test_corow_of_an_ask_that_is_not_full(self):
        scheme = Scheme(Table.plain(5, 4), 1)
        for ask in ((), (0,), (0, 4)):
            self.assertIsNone(scheme.check_ask(ask))
            self.refuse(BadAsk, {"ask": ask}, scheme.corow, ask)
            self.refuse(BadAsk, {"ask": ask}, scheme.pairing, (2,), ask)

    def test_pairing(self):
        scheme = Scheme(Table.plain(4, 3), 2)
        self.assertEqual(scheme.pairing((0, 1), (2,)), 2)
        self.assertEqual(scheme.pairing((0, 1), (1,)), 0)
        self.assertEqual(Scheme(Table([], 0), 0).pairing((), ()), 1)

    def test_pairing_is_the_determinant(self):
        draw = random.Random(7)
        for _ in range(60):
            scheme = draw_scheme(draw)
            table = scheme.table
            for lot in itertools.combinations(range(table.things), scheme.size):
                self.assertEqual(scheme.row(lot), slow.minors(table.rows_of(lot), table.columns))
                for ask in itertools.combinations(range(table.things), scheme.spare):
                    told = slow.det(table.rows_of(lot) + table.rows_of(ask))
                    self.assertEqual(scheme.pairing(lot, ask), told)
                    pairs = zip(scheme.row(lot), scheme.corow(ask))
                    self.assertEqual(sum(a * b for a, b in pairs) % 97, told)
                    self.assertEqual(scheme.fits(lot, ask), told != 0)

    def test_six_columns(self):
        scheme = Scheme(Table.plain(12, 6), 3)
        for lot, ask in (((0, 1, 2), (3, 4, 5)), ((2, 7, 11), (0, 8, 9)), ((2, 7, 11), (0, 7, 9))):
            rows = scheme.table.rows_of(lot + ask)
            self.assertEqual(scheme.pairing(lot, ask), slow.det(rows))

    def test_which_error_comes_first(self):
        scheme = Scheme(Table.plain(4, 3), 2)
        self.refuse(BadLot, {"lot": (1, 0)}, scheme.pairing, (1, 0), (9,))
        self.refuse(BadLot, {"lot": (1, 0)}, scheme.pairing, (1, 0), ())
        self.refuse(BadAsk, {"ask": (9,)}, scheme.pairing, (0, 1), (9,))
        self.refuse(BadLot, {"lot": (0,)}, scheme.fits, (0,), (9,))
        self.refuse(BadAsk, {"ask": (0, 1)}, scheme.fits, (0, 1), (0, 1))

    def test_returned_rows_are_new(self):
        scheme = Scheme(Table.plain(4, 3), 2)
        scheme.row((0, 1)).clear()
        scheme.corow((0,))[0] = 50
        scheme.table.row(0)[0] = 50
        self.assertEqual(scheme.row((0, 1)), [1, 3, 2])
        self.assertEqual(scheme.corow((1,)), [4, 95, 1])


class Fits(slow.Case):
    def test_edges(self):
        scheme = Scheme(Table.plain(4, 3), 2)
        self.assertIs(scheme.fits((0, 1), ()), True)
        self.assertIs(scheme.fits((0, 1), (2,)), True)
        self.assertIs(scheme.fits((0, 1), (1,)), False)
        nothing = Scheme(Table([[0, 0], [1, 2]], 2), 0)
        self.assertTrue(nothing.fits((), ()))
        self.assertFalse(nothing.fits((), (0,)))
        self.assertTrue(nothing.fits((), (1,)))

    def test_points(self):
        for columns in range(5):
            for size in range(columns + 1):
                scheme = Scheme(Table.points([9, 0, 50, -4, 10 ** 20], columns), size)
                for lot in itertools.combinations(range(5), size):
                    for ask in slow.asks(5, columns - size):
                        self.assertEqual(scheme.fits(lot, ask), not set(lot) & set(ask))

    def test_drawn(self):
        draw = random.Random(8)
        for _ in range(80):
            scheme = draw_scheme(draw)
            for lot in itertools.combinations(range(scheme.table.things), scheme.size):
                for ask in slow.asks(scheme.table.things, scheme.spare):
                    self.assertEqual(scheme.fits(lot, ask), slow.fits(scheme.table, lot, ask))


class Lists(slow.Case):
    def test_edges(self):
        scheme = Scheme(Table.plain(4, 2), 1)
        self.assertEqual(kept_list(scheme, []), [])
        self.assertIsNone(first_fit(scheme, [], ()))
        nothing = Scheme(Table.plain(4, 2), 0)
        self.assertEqual(kept_list(nothing, [(1, ()), (4, ()), (4, ()), (-9, ())]), [(4, ())])
        self.assertEqual(first_fit(nothing, [(1, ()), (4, ())], (1, 2)), (4, ()))
        whole = Scheme(Table.plain(4, 2), 2)
        self.assertEqual(kept_list(whole, [(1, (0, 1)), (1, (0, 2)), (0, (2, 3))]), [(1, (0, 1))])
        self.assertEqual(first_fit(whole, [(1, (0, 2)), (1, (0, 1))], ()), (1, (0, 1)))
        zero = Scheme(Table([[0, 97]], 2), 1)
        self.assertEqual(kept_list(zero, [(5, (0,))]), [])
        self.assertIsNone(first_fit(zero, [(5, (0,))], ()))

    def test_ordinary(self):
        scheme = Scheme(Table.plain(3, 2), 1)
        items = [(3, (2,)), (1, (1,)), (5, (0,)), (5, (0,)), (-10 ** 30, (0,))]
        self.assertEqual(kept_list(scheme, items), [(5, (0,)), (3, (2,))])
        self.assertEqual(first_fit(scheme, items, (0,)), (3, (2,)))
        self.assertEqual(first_fit(scheme, items, (2,)), (5, (0,)))
        self.assertEqual(first_fit(scheme, [(1, (1,))], (0,)), (1, (1,)))
        self.assertIsNone(first_fit(scheme, [(1, (1,))], (1,)))

    def test_equal_worths(self):
        scheme = Scheme(Table.plain(4, 2), 1)
        self.assertEqual(kept_list(scheme, [(2, (3,)), (2, (1,)), (2, (2,))]), [(2, (1,)), (2, (2,))])
        self.assertEqual(first_fit(scheme, [(2, (3,)), (2, (1,)), (2, (2,))], (1,)), (2, (2,)))

    def test_drawn(self):
        draw = random.Random(9)
        for _ in range(120):
            scheme = draw_scheme(draw)
            table = scheme.table
            items = slow.draw_items(draw, draw.randint(0, 8), table.things, scheme.size, worths=2)
            copy = list(items)
            kept = kept_list(scheme, items)
            told = slow.kept_list(lambda lot: slow.minors(table.rows_of(lot), table.columns), items)
            self.assertEqual(kept, told)
            self.assertLessEqual(len(kept), scheme.width)
            for ask in slow.asks(table.things, scheme.spare):
                first = slow.first_fit(table, items, ask)
                self.assertEqual(first_fit(scheme, items, ask), first)
                self.assertEqual(first_fit(scheme, kept, ask), first)
            draw.shuffle(items)
            self.assertEqual(kept_list(scheme, items + items[:2]), told)
            self.assertEqual(sorted(items), sorted(copy))

    def test_twelve_things_and_six_columns(self):
        draw = random.Random(10)
        scheme = Scheme(Table.plain(12, 6), 3)
        items = slow.draw_items(draw, 200, 12, 3, worths=50)
        kept = kept_list(scheme, items)
        self.assertEqual(len(kept), 20)
        for ask in draw.sample(slow.asks(12, 3), 60):
            told = [item for item in slow.rank_order(items) if not set(item[1]) & set(ask)][0]
            self.assertEqual(first_fit(scheme, items, ask), told)
            self.assertEqual(first_fit(scheme, kept, ask), told)

    def test_which_check_comes_first(self):
        scheme = Scheme(Table.plain(4, 3), 2)
        items = [(1, (0, 1)), (2, (1, 0)), (9, (0, 7))]
        self.refuse(BadLot, {"lot": (1, 0)}, kept_list, scheme, items)
        self.refuse(BadLot, {"lot": (1, 0)}, first_fit, scheme, items, (0,))
        self.refuse(BadAsk, {"ask": (0, 1)}, first_fit, scheme, items, (0, 1))
        self.refuse(BadAsk, {"ask": (4,)}, first_fit, scheme, [], (4,))
        for lot in [*SPOILT_PAIRS, (), (0,), (0, 1, 2)]:
            # The item ranks last, and an item before it fits; it is refused all the same.
            items = [(5, (0, 1)), (-1, lot)]
            self.refuse(BadLot, {"lot": lot}, kept_list, scheme, items)
            self.refuse(BadLot, {"lot": lot}, first_fit, scheme, items, ())

    def test_arguments_and_returned_lists(self):
        scheme = Scheme(Table.plain(3, 2), 1)
        items = [(3, (2,)), (1, (1,)), (5, (0,))]
        kept = kept_list(scheme, items)
        first_fit(scheme, items, (0,))
        self.assertEqual(items, [(3, (2,)), (1, (1,)), (5, (0,))])
        kept.append("changed")
        self.assertEqual(kept_list(scheme, items), [(5, (0,)), (3, (2,))])

    def test_errors_change_nothing(self):
        scheme = Scheme(Table.plain(3, 2), 1)
        before = scheme.table.show()
        self.refuse(BadLot, {"lot": ()}, kept_list, scheme, [(1, ())])
        self.refuse(BadAsk, {"ask": (0, 1)}, scheme.corow, (0, 1))
        self.assertEqual(scheme.table.show(), before)
        self.assertEqual((scheme.size, scheme.spare, scheme.width), (1, 1, 2))
