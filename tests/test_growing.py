"""Points [33] to [35], and [1] for the lists that are passed and returned."""

import itertools
import random

from fewserve.errors import BadLot, BadSize
from fewserve.growing import grow, grow_all, staged_lists
from fewserve.schemes import Scheme, kept_list
from fewserve.tables import Table
from tests import slow


def slow_join(items, others):
    found = []
    for worth, lot in items:
        for more, other in others:
            if not set(lot) & set(other):
                found.append((worth + more, tuple(sorted(set(lot) | set(other)))))
    return slow.rank_order(found)


def draw_table(draw, columns, things):
    if draw.randrange(2):
        return Table.points(draw.sample(range(97), things), columns)
    return Table(slow.draw_rows(draw, things, columns, -1, 1), columns)


class Growing(slow.Case):
    def test_ordinary(self):
        self.assertEqual(grow([(5, (1, 4)), (3, (2,))], 2, -1), [(4, (1, 2, 4))])
        self.assertEqual(grow([], 2, 5), [])
        self.assertEqual(grow([(0, ())], 0, 10 ** 30), [(10 ** 30, (0,))])
        self.assertEqual(grow([(7, (2,))], 2, 5), [])
        items = [(1, (3,)), (4, (5, 6)), (1, (0,)), (4, (5, 6)), (1, ())]
        told = [(2, (2, 5, 6)), (-1, (0, 2)), (-1, (2,)), (-1, (2, 3))]
        self.assertEqual(grow(items, 2, -2), told)

    def test_all(self):
        self.assertEqual(grow_all([], []), [])
        self.assertEqual(grow_all([(1, (0,))], []), [])
        self.assertEqual(grow_all([], [(1, (0,))]), [])
        self.assertEqual(grow_all([(1, ())], [(2, ())]), [(3, ())])
        items = [(1, (3,)), (4, (0, 6)), (4, (0, 6))]
        others = [(-10, (3, 4)), (2, (1,)), (5, ()), (5, (0,))]
        told = [(9, (0, 6)), (6, (0, 1, 6)), (6, (0, 3)), (6, (3,)), (3, (1, 3)), (-6, (0, 3, 4, 6))]
        self.assertEqual(grow_all(items, others), told)

    def test_equal_joins_count_once(self):
        self.assertEqual(grow_all([(1, (0,)), (1, (1,))], [(2, (0,)), (2, (1,))]), [(3, (0, 1))])

    def test_drawn(self):
        draw = random.Random(25)
        for _ in range(100):
            items = slow.draw_items(draw, draw.randint(0, 10), 6, draw.randint(0, 3), worths=3)
            items += slow.draw_items(draw, draw.randint(0, 10), 6, draw.randint(0, 3), worths=3)
            others = slow.draw_items(draw, draw.randint(0, 20), 6, draw.randint(0, 3), worths=3)
            before = list(items), list(others)
            self.assertEqual(grow_all(items, others), slow_join(items, others))
            self.assertEqual(grow(items, 2, 9), slow_join(items, [(9, (2,))]))
            self.assertEqual((items, others), before)

    def test_returned_lists_are_new(self):
        items = [(1, (0,))]
        grow(items, 1, 1).clear()
        grow_all(items, [(1, (1,))]).clear()
        self.assertEqual(grow(items, 1, 1), [(2, (0, 1))])
        self.assertEqual(grow_all(items, [(1, (1,))]), [(2, (0, 1))])


class GrowingFromKeptLists(slow.Case):
    def test_grow(self):
        draw = random.Random(26)
        for _ in range(60):
            columns = draw.randint(1, 5)
            size = draw.randint(0, columns - 1)
            table = draw_table(draw, columns, 6)
            items = slow.draw_items(draw, draw.randint(0, 20), 6, size, worths=4)
            kept = kept_list(Scheme(table, size), items)
            greater = Scheme(table, size + 1)
            for thing in range(6):
                told = kept_list(greater, grow(items, thing, -3))
                self.assertEqual(kept_list(greater, grow(kept, thing, -3)), told)

    def test_grow_all(self):
        draw = random.Random(27)
        for _ in range(80):
            columns = draw.randint(0, 5)
            size = draw.randint(0, columns)
            other = draw.randint(0, columns - size)
            table = draw_table(draw, columns, 6)
            items = slow.draw_items(draw, draw.randint(0, 20), 6, size, worths=4)
            others = slow.draw_items(draw, draw.randint(0, 20), 6, other, worths=4)
            both = Scheme(table, size + other)
            told = kept_list(both, grow_all(items, others))
            few = grow_all(kept_list(Scheme(table, size), items), kept_list(Scheme(table, other), others))
            self.assertEqual(kept_list(both, few), told)


class Stages(slow.Case):
    def test_edges(self):
        table = Table.plain(4, 2)
        self.assertEqual(staged_lists(table, []), [[(0, ())]])
        self.assertEqual(staged_lists(Table([], 0), []), [[(0, ())]])
        self.assertEqual(staged_lists(table, [[]]), [[(0, ())], []])
        self.assertEqual(staged_lists(table, [[], [(0, 1)]]), [[(0, ())], [], []])
        self.assertEqual(staged_lists(table, [[(0, 1)], [(0, 5)]]), [[(0, ())], [(1, (0,))], []])
        self.assertEqual(staged_lists(Table([[0]], 1), [[(0, 7)]]), [[(0, ())], []])

    def test_ordinary(self):
        table = Table.plain(3, 2)
        stages = [[(0, 5), (1, 1), (2, 3), (0, -10 ** 30), (0, 5)], [(0, 1), (1, 1), (1, 2)]]
        told = [[(0, ())], [(5, (0,)), (3, (2,))], [(7, (0, 1))]]
        self.assertEqual(staged_lists(table, stages), told)

    def test_wrong(self):
        table = Table.plain(3, 2)
        self.refuse(BadSize, {"size": 3}, staged_lists, table, [[], [], []])
        self.refuse(BadSize, {"size": 1}, staged_lists, Table([[]], 0), [[]])
        for thing in (3, -1, 10 ** 40, -(10 ** 5000)):
            self.refuse(BadLot, {"lot": (thing,)}, staged_lists, table, [[(0, 1)], [(2, 1), (thing, 1), (9, 1)]])
            self.refuse(BadLot, {"lot": (thing,)}, staged_lists, table, [[], [(thing, 1)]])
        self.refuse(BadSize, {"size": 3}, staged_lists, table, [[(9, 1)], [(-1, 1)], []])
        self.refuse(BadLot, {"lot": (7,)}, staged_lists, table, [[(1, 1), (7, 2)], [(8, 1)]])

    def test_drawn(self):
        draw = random.Random(28)
        for _ in range(60):
            columns = draw.randint(0, 4)
            table = draw_table(draw, columns, 5)
            stages = [
                [(draw.randrange(5), draw.randint(-3, 3)) for _ in range(draw.randint(0, 4))]
                for _ in range(draw.randint(0, columns))
            ]
            copy = [list(stage) for stage in stages]
            lists = staged_lists(table, stages)
            self.assertEqual(len(lists), len(stages) + 1)
            for size in range(len(stages) + 1):
                items = []
                for pairs in itertools.product(*stages[:size]):
                    things = [thing for thing, _ in pairs]
                    if len(set(things)) == size:
                        items.append((sum(worth for _, worth in pairs), tuple(sorted(things))))
                self.assertEqual(lists[size], kept_list(Scheme(table, size), items))
            self.assertEqual(stages, copy)

    def test_great_stages(self):
        draw = random.Random(29)
        stages = [[(draw.randrange(12), draw.randint(-50, 50)) for _ in range(20)] for _ in range(6)]
        lists = staged_lists(Table.plain(12, 6), stages)
        self.assertEqual([len(items) for items in lists], [1, 6, 15, 20, 15, 6, 1])

    def test_returned_lists_are_new(self):
        table = Table.plain(3, 2)
        lists = staged_lists(table, [[(0, 1)]])
        lists[0].clear()
        lists[1].append("changed")
        lists.pop()
        self.assertEqual(staged_lists(table, [[(0, 1)]]), [[(0, ())], [(1, (0,))]])
