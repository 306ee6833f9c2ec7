"""Points [77] to [79]."""

import itertools
import random

from fewserve.errors import BadLot
from fewserve.least import least_list, serves, witnesses
from fewserve.schemes import Scheme, kept_list
from fewserve.tables import Table
from tests import slow
from tests.drawn import draw_scheme


def small():
    return Scheme(Table.plain(3, 2), 1)


class Serving(slow.Case):
    def test_ordinary(self):
        items = [(5, (0,)), (3, (2,)), (1, (1,))]
        self.assertIs(serves(small(), [(5, (0,)), (3, (2,))], items), True)
        self.assertIs(serves(small(), items, [(3, (2,)), (5, (0,))]), True)
        self.assertIs(serves(small(), [(5, (0,))], items), False)
        self.assertIs(serves(small(), [(5, (0,)), (1, (1,))], items), False)
        self.assertIs(serves(small(), [(5, (0,)), (3, (2,)), (5, (1,))], items), False)
        # Items that are not among the others may do no harm.
        self.assertIs(serves(small(), [(5, (0,)), (3, (2,)), (2, (1,))], items), True)

    def test_edges(self):
        self.assertIs(serves(small(), [], []), True)
        self.assertIs(serves(small(), [], [(1, (1,))]), False)
        self.assertIs(serves(small(), [(1, (1,))], []), False)
        zero = Scheme(Table([[0]], 1), 1)
        self.assertIs(serves(zero, [], [(1, (0,))]), True)
        self.assertIs(serves(zero, [(1, (0,))], []), True)
        whole = Scheme(Table.plain(3, 2), 2)
        self.assertIs(serves(whole, [(4, (1, 2))], [(3, (0, 1)), (4, (1, 2)), (4, (1, 2))]), True)
        self.assertIs(serves(whole, [(4, (0, 2))], [(4, (1, 2))]), False)

    def test_which_error_comes_first(self):
        good = [(1, (1,))]
        for lot in ((), (3,), (0, 1), (-1,)):
            self.refuse(BadLot, {"lot": lot}, serves, small(), good + [(2, lot), (3, (9,))], [(1, (8,))])
            self.refuse(BadLot, {"lot": lot}, serves, small(), good, good + [(2, lot), (3, (9,))])
            self.refuse(BadLot, {"lot": lot}, serves, small(), [], [(2, lot)])

    def test_drawn(self):
        draw = random.Random(110)
        right = wrong = 0
        for _ in range(150):
            drawn = draw_scheme(draw)
            items = drawn.items(draw, 6)
            others = draw.sample(items, draw.randint(0, len(items))) + drawn.items(draw, 1)
            copies = list(items), list(others)
            told = all(drawn.first(others, ask) == drawn.first(items, ask) for ask in drawn.asks)
            self.assertIs(serves(drawn.scheme, others, items), told)
            self.assertIs(serves(drawn.scheme, kept_list(drawn.scheme, items), items), True)
            self.assertEqual((items, others), copies)
            right += told
            wrong += not told
        self.assertGreater(right, 30)
        self.assertGreater(wrong, 30)


class LeastLists(slow.Case):
    def test_ordinary(self):
        items = [(1, (1,)), (3, (2,)), (5, (0,)), (3, (2,))]
        self.assertEqual(least_list(small(), items), [(5, (0,)), (3, (2,))])
        self.assertEqual(witnesses(small(), items), [((5, (0,)), ()), ((3, (2,)), (0,))])

    def test_edges(self):
        self.assertEqual(least_list(small(), []), [])
        self.assertEqual(witnesses(small(), []), [])
        zero = Scheme(Table([[0]], 1), 1)
        self.assertEqual((least_list(zero, [(1, (0,))]), witnesses(zero, [(1, (0,))])), ([], []))
        whole = Scheme(Table.plain(3, 2), 2)
        items = [(4, (1, 2)), (4, (0, 2)), (3, (0, 1))]
        self.assertEqual(least_list(whole, items), [(4, (0, 2))])
        self.assertEqual(witnesses(whole, items), [((4, (0, 2)), ())])
        nothing = Scheme(Table.plain(3, 2), 0)
        self.assertEqual(witnesses(nothing, [(4, ()), (5, ())]), [((5, ()), ())])

    def test_shorter_than_the_kept_list(self):
        scheme = Scheme(Table.plain(4, 3), 2)
        items = [(3, (1, 3)), (1, (0, 2)), (1, (2, 3))]
        self.assertEqual(kept_list(scheme, items), items)
        self.assertEqual(least_list(scheme, items), items[:2])
        self.assertEqual(witnesses(scheme, items), [(items[0], ()), (items[1], (1,))])
        self.assertIs(serves(scheme, items[:2], items), True)

    def test_drawn(self):
        draw = random.Random(111)
        shorter = 0
        for _ in range(150):
            drawn = draw_scheme(draw)
            items = drawn.items(draw)
            copy = list(items)
            firsts = [(ask, drawn.first(items, ask)) for ask in drawn.asks]
            told = slow.rank_order([item for _, item in firsts if item is not None])
            found = least_list(drawn.scheme, items)
            self.assertEqual(found, told)
            kept = drawn.kept(items)
            self.assertTrue(all(item in kept for item in found))
            shorter += len(found) < len(kept)
            self.assertIs(serves(drawn.scheme, found, items), True)
            expected = [(item, [ask for ask, first in firsts if first == item][0]) for item in told]
            self.assertEqual(witnesses(drawn.scheme, items), expected)
            self.assertEqual(items, copy)
        self.assertGreater(shorter, 1)

    def test_every_list_that_serves_contains_the_least_list(self):
        draw = random.Random(112)
        for _ in range(30):
            drawn = draw_scheme(draw)
            items = slow.rank_order(drawn.items(draw, 6))
            least = least_list(drawn.scheme, items)
            for size in range(len(items) + 1):
                for few in itertools.combinations(items, size):
                    if serves(drawn.scheme, list(few), items):
                        self.assertTrue(all(item in few for item in least))

    def test_bad_lots(self):
        for lot in ((), (3,), (0, 1), (-1,)):
            for call in (least_list, witnesses):
                self.refuse(BadLot, {"lot": lot}, call, small(), [(1, (1,)), (2, lot), (3, (9,))])

    def test_returned_lists_are_new(self):
        items = [(5, (0,)), (3, (2,))]
        least_list(small(), items).clear()
        witnesses(small(), items).clear()
        self.assertEqual(least_list(small(), items), items)
        self.assertEqual(len(witnesses(small(), items)), 2)
        self.assertEqual(items, [(5, (0,)), (3, (2,))])
