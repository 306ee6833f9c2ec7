"""Points [80] to [83]."""

import itertools
import random

from fewserve.errors import BadAsk, BadLot, BadSize, BadTable
from fewserve.fills import fill, whole_determinant
from fewserve.pairs import all_pairs, beyond, is_skew, skew_matrix
from fewserve.schemes import Scheme, kept_list
from fewserve.tables import Table
from tests import slow
from tests.drawn import draw_scheme


def draw_pairs(draw, drawn, most=5):
    """Return drawn pairs: any, or of lots that fit their own asks, or a skew list that may be spoilt."""
    if not drawn.lots:
        return []
    pairs = [(draw.choice(drawn.lots), draw.choice(drawn.asks)) for _ in range(draw.randint(0, most))]
    deed = draw.randrange(4)
    if deed == 0:
        return pairs
    pairs = [pair for pair in pairs if drawn.fits(*pair)]
    if deed == 1:
        return pairs
    skew = []
    for _ in range(20):
        lot, ask = draw.choice(drawn.lots), draw.choice(drawn.asks)
        if len(skew) < most and drawn.fits(lot, ask) and not any(drawn.fits(other, ask) for other, _ in skew):
            skew.append((lot, ask))
    return skew if deed == 2 else skew[::-1]


def slow_skew(drawn, pairs):
    for i, (lot, _) in enumerate(pairs):
        for j, (_, ask) in enumerate(pairs):
            if i == j and not drawn.fits(lot, ask) or i < j and drawn.fits(lot, ask):
                return False
    return True


class Skew(slow.Case):
    def test_ordinary(self):
        scheme = Scheme(Table.plain(4, 2), 1)
        self.assertIs(is_skew(scheme, [((0,), (1,)), ((1,), (2,))]), False)
        self.assertIs(is_skew(scheme, [((0,), (1,)), ((1,), (0,))]), True)
        # The second lot fits the first ask, which does no harm; the other way round it does.
        self.assertIs(is_skew(scheme, [((0,), (1,)), ((2,), (0,))]), True)
        self.assertIs(is_skew(scheme, [((2,), (0,)), ((0,), (1,))]), False)
        self.assertIs(is_skew(scheme, [((0,), (1,)), ((1,), (1,))]), False)
        self.assertIs(is_skew(scheme, [((0,), (0,))]), False)
        self.assertIs(is_skew(scheme, [((0,), ())]), True)
        self.assertIs(is_skew(scheme, [((0,), ()), ((1,), (0,))]), True)
        self.assertIs(is_skew(scheme, [((0,), ()), ((1,), ())]), False)

    def test_edges(self):
        draw = random.Random(120)
        for _ in range(20):
            drawn = draw_scheme(draw)
            self.assertIs(is_skew(drawn.scheme, []), True)
            self.assertEqual(skew_matrix(drawn.scheme, []), [])
        nothing = Scheme(Table([], 0), 0)
        self.assertIs(is_skew(nothing, [((), ())]), True)
        self.assertEqual(skew_matrix(nothing, [((), ())]), [[1]])
        self.assertIs(is_skew(nothing, [((), ())] * 2), False)
        self.assertEqual(skew_matrix(nothing, [((), ())] * 2), [[1, 1], [1, 1]])

    def test_drawn(self):
        draw = random.Random(121)
        right = wrong = 0
        for _ in range(250):
            drawn = draw_scheme(draw)
            pairs = draw_pairs(draw, drawn)
            copy = list(pairs)
            told = slow_skew(drawn, pairs)
            self.assertIs(is_skew(drawn.scheme, pairs), told)
            self.assertEqual(pairs, copy)
            if len(pairs) > 1:
                right += told
                wrong += not told
            if told:
                self.assertTrue(slow.independent([drawn.scheme.row(lot) for lot, _ in pairs]))
                self.assertLessEqual(len(pairs), drawn.scheme.width)
        self.assertGreater(right, 10)
        self.assertGreater(wrong, 50)

    def test_errors_in_the_order_of_the_pairs(self):
        draw = random.Random(122)
        for _ in range(60):
            drawn = draw_scheme(draw)
            pairs = draw_pairs(draw, drawn)
            good = [(lot, ask) for lot in drawn.lots[:1] for ask in drawn.asks[:1]]
            for call in (is_skew, skew_matrix):
                for lot in drawn.bad_lots():
                    for ask in drawn.asks[:1] + drawn.bad_asks()[:1]:
                        # The pair before need not fit, and the pairs after may be worse.
                        spoilt = pairs + [(lot, ask), (drawn.bad_lots()[0], drawn.bad_asks()[0])]
                        self.refuse(BadLot, {"lot": lot}, call, drawn.scheme, spoilt)
                for lot, _ in good:
                    for ask in drawn.bad_asks():
                        spoilt = pairs + [(lot, ask), (drawn.bad_lots()[0], ())]
                        self.refuse(BadAsk, {"ask": ask}, call, drawn.scheme, spoilt)

    def test_many_pairs(self):
        scheme = Scheme(Table.plain(6, 6), 3)
        pairs = all_pairs(3, 3)
        self.assertIs(is_skew(scheme, pairs), True)
        self.assertIs(is_skew(scheme, pairs * 5), False)
        self.assertEqual(len(skew_matrix(scheme, pairs * 5)), 100)


class Matrices(slow.Case):
    def test_ordinary(self):
        table = Table.plain(4, 2)
        scheme = Scheme(table, 1)
        pairs = [((0,), (1,)), ((2,), (0,)), ((3,), ())]
        told = []
        for lot, _ in pairs:
            row = []
            for other, ask in pairs:
                rows = table.rows_of(lot + ask) + [[1, 0] if k == 0 else [0, 1] for k in fill(table, other + ask)]
                row.append(slow.det(rows))
            told.append(row)
        self.assertEqual(skew_matrix(scheme, pairs), told)
        self.assertEqual(told[0][:2], [1, 0])

    def test_lots_that_do_not_fit_their_asks(self):
        scheme = Scheme(Table.plain(4, 3), 1)
        pairs = [((0,), (1, 2)), ((1,), (0, 3)), ((2,), (2, 3)), ((1,), (1,)), ((3,), (0, 3))]
        self.refuse(BadAsk, {"ask": (2, 3)}, skew_matrix, scheme, pairs)
        self.refuse(BadAsk, {"ask": (1,)}, skew_matrix, scheme, pairs[:2] + pairs[3:])
        self.assertEqual(len(skew_matrix(scheme, pairs[:2])), 2)
        # Lots and asks that are none of the scheme come first.
        self.refuse(BadLot, {"lot": (9,)}, skew_matrix, scheme, pairs + [((9,), (8,))])
        self.refuse(BadAsk, {"ask": (8,)}, skew_matrix, scheme, pairs + [((0,), (8,))])
        zero = Scheme(Table([[0]], 1), 1)
        self.refuse(BadAsk, {"ask": ()}, skew_matrix, zero, [((0,), ())])

    def test_drawn(self):
        draw = random.Random(123)
        skew = 0
        for _ in range(250):
            drawn = draw_scheme(draw)
            table = drawn.table
            pairs = draw_pairs(draw, drawn)
            copy = list(pairs)
            unfit = [ask for lot, ask in pairs if not drawn.fits(lot, ask)]
            if unfit:
                self.refuse(BadAsk, {"ask": unfit[0]}, skew_matrix, drawn.scheme, pairs)
                continue
            matrix = skew_matrix(drawn.scheme, pairs)
            self.assertEqual(len(matrix), len(pairs))
            for i, row in enumerate(matrix):
                self.assertEqual(len(row), len(pairs))
                for j, number in enumerate(row):
                    lot, (other, ask) = pairs[i][0], pairs[j]
                    told = whole_determinant(table, lot + ask, fill(table, other + ask))
                    self.assertEqual(number, told)
                    self.assertIn(number, range(97))
            if is_skew(drawn.scheme, pairs):
                skew += len(pairs) > 1
                for i, row in enumerate(matrix):
                    self.assertNotEqual(row[i], 0)
                    self.assertEqual(row[i + 1:], [0] * (len(pairs) - i - 1))
            for row in matrix:
                row.clear()
            self.assertEqual(pairs, copy)
        self.assertGreater(skew, 10)


class AllPairs(slow.Case):
    def test_ordinary(self):
        self.assertEqual(all_pairs(1, 2), [((0,), (1, 2)), ((1,), (0, 2)), ((2,), (0, 1))])
        self.assertEqual(all_pairs(2, 1), [((0, 1), (2,)), ((0, 2), (1,)), ((1, 2), (0,))])

    def test_edges(self):
        self.assertEqual(all_pairs(0, 0), [((), ())])
        self.assertEqual(all_pairs(0, 3), [((), (0, 1, 2))])
        self.assertEqual(all_pairs(3, 0), [((0, 1, 2), ())])

    def test_all(self):
        for size in range(7):
            for spare in range(7 - size):
                things = range(size + spare)
                pairs = all_pairs(size, spare)
                told = [(lot, tuple(k for k in things if k not in lot)) for lot in itertools.combinations(things, size)]
                self.assertEqual(pairs, told)
                scheme = Scheme(Table.plain(size + spare, size + spare), size)
                self.assertEqual(len(pairs), scheme.width)
                self.assertIs(is_skew(scheme, pairs), True)
                self.assertIs(is_skew(scheme, pairs[::-1]), True)
                for i, (lot, _) in enumerate(pairs):
                    for j, (_, ask) in enumerate(pairs):
                        self.assertEqual(scheme.fits(lot, ask), i == j)

    def test_returned_list_is_new(self):
        all_pairs(1, 1).clear()
        self.assertEqual(all_pairs(1, 1), [((0,), (1,)), ((1,), (0,))])


class Beyond(slow.Case):
    def test_all(self):
        for size in range(1, 7):
            for spare in range(7 - size):
                things = range(size + spare + 1)
                scheme = Scheme(Table.plain(size + spare + 1, size + spare), size)
                lots = list(itertools.combinations(things, size))
                kept = kept_list(scheme, [(0, lot) for lot in lots])
                left = [lot for lot in lots if (0, lot) not in kept]
                told = beyond(size, spare)
                self.assertEqual(told, (left[0], tuple(k for k in things if k not in left[0])))
                self.assertEqual(len(told[1]), spare + 1)
                for _, lot in kept:
                    self.assertTrue(set(lot) & set(told[1]))

    def test_small(self):
        # Things 0 and 1 have the same row.
        self.assertEqual(beyond(1, 0), ((1,), (0,)))
        self.assertEqual(beyond(1, 1), ((2,), (0, 1)))

    def test_wrong(self):
        for size, spare in ((0, 0), (-1, 3), (0, 7), (-5, 20), (-(10 ** 30), 0), (0, 10 ** 30)):
            self.refuse(BadSize, {"size": size}, beyond, size, spare)
        for size, spare in ((1, 6), (7, 0), (4, 3), (10 ** 30, 0), (1, 10 ** 30), (6, 1)):
            self.refuse(BadTable, {}, beyond, size, spare)
