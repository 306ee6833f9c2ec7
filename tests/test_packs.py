"""Points [125] to [131]."""

import itertools
import random

from fewserve.errors import BadLot, BadSize, ServeError
from fewserve.packs import best_packing, pack_lists, packing_within, packings
from fewserve.tables import Table
from tests import slow
from tests.drawn import draw_table


def slow_packings(table, items, count):
    """Return all packings of that many items, in ascending order of their ranks."""
    found = []
    for chosen in itertools.combinations(slow.rank_order(items), count):
        things = [thing for _, lot in chosen for thing in lot]
        if slow.independent(table.rows_of(tuple(things))):
            found.append(list(chosen))
    return found


def joined(packing):
    return (sum(worth for worth, _ in packing), tuple(sorted(thing for _, lot in packing for thing in lot)))


def slow_kept(table, items):
    return slow.kept_list(lambda lot: slow.minors(table.rows_of(lot), table.columns), items)


def draw_pack(draw):
    """Return a drawn table, a size, and items of that size."""
    table = draw_table(draw, draw.randint(0, 7), draw.randint(0, 4))
    size = draw.randint(1, 3)
    many = draw.randint(0, 8) if size <= table.things else 0
    return table, size, slow.draw_items(draw, many, table.things, size, draw.choice([0, 2, 9]))


class Lists(slow.Case):
    def test_ordinary(self):
        table = Table.plain(5, 4)
        items = [(5, (0, 1)), (4, (1, 2)), (3, (2, 3)), (1, (3, 4)), (4, (1, 2))]
        # With four columns the row of a lot of four things has one number, so one lot is kept.
        told = [[(0, ())], [(5, (0, 1)), (4, (1, 2)), (3, (2, 3)), (1, (3, 4))], [(8, (0, 1, 2, 3))]]
        self.assertEqual(pack_lists(table, 2, items, 2), told)
        self.assertEqual(pack_lists(table, 2, items, 0), told[:1])
        self.assertEqual(pack_lists(table, 2, items, 4), told + [[], []])
        self.assertEqual(items, [(5, (0, 1)), (4, (1, 2)), (3, (2, 3)), (1, (3, 4)), (4, (1, 2))])

    def test_edges(self):
        table = Table.plain(3, 2)
        self.assertEqual(pack_lists(table, 1, [], 0), [[(0, ())]])
        self.assertEqual(pack_lists(table, 1, [], 3), [[(0, ())], [], [], []])
        self.assertEqual(pack_lists(table, 3, [(5, (0, 1, 2))], 2), [[(0, ())], [], []])
        self.assertEqual(pack_lists(table, 99, [], 1), [[(0, ())], []])
        self.assertEqual(pack_lists(Table([], 0), 1, [], 1), [[(0, ())], []])
        self.assertEqual(pack_lists(table, 2, [(5, (0, 1)), (5, (1, 2))], 2), [[(0, ())], [(5, (0, 1))], []])
        self.assertEqual(len(pack_lists(table, 1, [], 12)), 13)

    def test_wrong(self):
        table = Table.plain(4, 3)
        bad = [(1, (0, 1)), (2, (4, 5)), (3, (1,))]
        for function in (pack_lists, best_packing):
            for size in (0, -1, -10 ** 30):
                self.refuse(BadSize, {"size": size}, function, table, size, bad, -1)
            for count in (-1, -10 ** 30):
                self.refuse(BadSize, {"size": count}, function, table, 1, bad, count)
            for count in (0, 1, 12):
                self.refuse(BadLot, {"lot": (4, 5)}, function, table, 2, bad, count)
                self.refuse(BadLot, {"lot": (0, 1)}, function, table, 1, bad, count)
                for lot in ((), (1,), (1, 1), (1, 0), (-1, 0), (0, 4), (0, 1, 2), (0, 10 ** 30)):
                    self.refuse(BadLot, {"lot": lot}, function, table, 2, [(9, (0, 1)), (1, lot), (2, (3, 2))], count)
                # A size that is greater than the number of columns is no error, but the lots are checked.
                self.refuse(BadLot, {"lot": (0, 1, 2)}, function, table, 4, [(1, (0, 1, 2, 3)), (1, (0, 1, 2))], count)
                self.refuse(BadLot, {"lot": (1, 2, 3, 4)}, function, table, 4, [(1, (0, 1, 2, 3)), (1, (1, 2, 3, 4))], count)
        self.assertEqual(pack_lists(table, 4, [(1, (0, 1, 2, 3))], 1), [[(0, ())], []])
        self.assertEqual((BadSize.__bases__, BadLot.__bases__), ((ServeError,), (ServeError,)))

    def test_drawn(self):
        draw = random.Random(220)
        for _ in range(120):
            table, size, items = draw_pack(draw)
            count = draw.randint(0, 4)
            before = list(items)
            found = pack_lists(table, size, items, count)
            told = []
            for many in range(count + 1):
                if size * many > table.columns:
                    told.append([])
                else:
                    told.append(slow_kept(table, [joined(one) for one in slow_packings(table, items, many)]))
            self.assertEqual(found, told)
            found[0].clear()
            self.assertEqual(pack_lists(table, size, items, count), told)
            self.assertEqual(items, before)


class Best(slow.Case):
    def test_ordinary(self):
        table = Table.plain(6, 4)
        items = [(5, (0, 1)), (4, (1, 2)), (4, (0, 3)), (1, (4, 5))]
        self.assertEqual(best_packing(table, 2, items, 2), (8, [(4, (0, 3)), (4, (1, 2))]))
        self.assertEqual(best_packing(table, 2, items, 1), (5, [(5, (0, 1))]))
        self.assertEqual(best_packing(table, 2, items, 0), (0, []))
        self.assertIsNone(best_packing(table, 2, items, 3))

    def test_edges(self):
        table = Table.plain(4, 2)
        self.assertEqual(best_packing(table, 1, [], 0), (0, []))
        self.assertIsNone(best_packing(table, 1, [], 1))
        self.assertEqual(best_packing(table, 3, [(1, (0, 1, 2))], 0), (0, []))
        self.assertIsNone(best_packing(table, 3, [(1, (0, 1, 2))], 1))
        self.assertEqual(best_packing(table, 1, [(-5, (0,)), (-5, (0,)), (-3, (1,))], 2), (-8, [(-3, (1,)), (-5, (0,))]))
        self.assertIsNone(best_packing(table, 1, [(-5, (0,)), (-4, (0,))], 2))

    def test_the_first_item_that_leaves_one(self):
        # Both 6 + 2 and 5 + 3 have the lot 0, 1; the item that is taken first is the dearest of these.
        table = Table.plain(2, 2)
        items = [(6, (0,)), (5, (0,)), (3, (1,)), (2, (1,))]
        self.assertEqual(best_packing(table, 1, items, 2), (9, [(6, (0,)), (3, (1,))]))
        wide = Table.plain(4, 4)
        pairs = [(5, (0, 1)), (5, (2, 3)), (6, (0, 2)), (4, (1, 3)), (7, (0, 3)), (3, (1, 2))]
        self.assertEqual(best_packing(wide, 2, pairs, 2), (10, [(7, (0, 3)), (3, (1, 2))]))

    def test_drawn(self):
        draw = random.Random(221)
        some = none = 0
        for _ in range(250):
            table, size, items = draw_pack(draw)
            count = draw.randint(0, 4)
            before = list(items)
            found = best_packing(table, size, items, count)
            within = packing_within(table, items, count)
            all_of_them = slow_packings(table, items, count)
            self.assertEqual(items, before)
            if not all_of_them:
                self.assertIsNone(found)
                self.assertIsNone(within)
                none += 1
                continue
            some += 1
            best = max(joined(one)[0] for one in all_of_them)
            self.assertEqual(found[0], best)
            self.assertIn(found[1], all_of_them)
            self.assertEqual(joined(found[1])[0], best)
            self.assertEqual(found[1], self.taken(table, size, items, count))
            self.assertEqual(within, (best, [one for one in all_of_them if joined(one)[0] == best][0]))
            if 1 <= size <= table.columns:
                few = slow_kept(table, items)
                self.assertEqual(packing_within(table, few, count)[0], best)
                self.assertEqual(best_packing(table, size, few, count), found)
        self.assertGreater(some, 60)
        self.assertGreater(none, 30)

    def test_wide_tables(self):
        draw = random.Random(223)
        for _ in range(30):
            table = draw_table(draw, draw.randint(6, 12), draw.randint(5, 6))
            size = draw.randint(1, 3)
            items = slow.draw_items(draw, 15, table.things, size, 20)
            for count in (2, 3):
                found = best_packing(table, size, items, count)
                within = packing_within(table, items, count)
                self.assertEqual(found and found[0], within and within[0])
                if found:
                    self.assertEqual(joined(found[1])[0], found[0])
                    self.assertIn(found[1], list(packings(table, items, count)))

    def taken(self, table, size, items, count):
        """Take items out by [129], with the lists of all packings."""
        lists = [slow_kept(table, [joined(one) for one in slow_packings(table, items, many)]) for many in range(count + 1)]
        worth, lot = lists[-1][0]
        found = []
        for many in range(count - 1, -1, -1):
            for item in slow_kept(table, items):
                rest = (worth - item[0], tuple(thing for thing in lot if thing not in item[1]))
                if set(item[1]) <= set(lot) and rest in lists[many]:
                    found.append(item)
                    worth, lot = rest
                    break
        return slow.rank_order(found)


class Packings(slow.Case):
    def test_ordinary(self):
        table = Table.plain(5, 3)
        items = [(1, (0, 1)), (3, (2,)), (2, (1, 3)), (3, (2,)), (3, (0,)), (5, ())]
        told = [
            [(5, ()), (3, (0,))], [(5, ()), (3, (2,))], [(5, ()), (2, (1, 3))], [(5, ()), (1, (0, 1))],
            [(3, (0,)), (3, (2,))], [(3, (0,)), (2, (1, 3))], [(3, (2,)), (2, (1, 3))], [(3, (2,)), (1, (0, 1))],
        ]
        self.assertEqual(list(packings(table, items, 2)), told)
        self.assertEqual(packing_within(table, items, 2), (8, [(5, ()), (3, (0,))]))
        self.assertEqual(packing_within(table, items, 3), (11, [(5, ()), (3, (0,)), (3, (2,))]))
        self.assertEqual(items, [(1, (0, 1)), (3, (2,)), (2, (1, 3)), (3, (2,)), (3, (0,)), (5, ())])

    def test_edges(self):
        table = Table.plain(3, 2)
        for items in ([], [(5, (0,))]):
            self.assertEqual(list(packings(table, items, 0)), [[]])
            self.assertEqual(packing_within(table, items, 0), (0, []))
            self.assertEqual(list(packings(table, items, 2)), [])
            self.assertIsNone(packing_within(table, items, 2))
        self.assertEqual(list(packings(table, [(5, (0,)), (5, (0,))], 1)), [[(5, (0,))]])
        self.assertEqual(list(packings(table, [(5, (0,)), (5, (0,))], 2)), [])
        self.assertEqual(list(packings(table, [(1, ()), (2, ())], 2)), [[(2, ()), (1, ())]])
        self.assertEqual(list(packings(table, [(1, (0, 1, 2))], 1)), [])
        self.assertEqual(packing_within(table, [(-3, (0,)), (-2, (1,))], 1), (-2, [(-2, (1,))]))
        zero = Table([[0], [1]], 1)
        self.assertEqual(list(packings(zero, [(1, (0,)), (0, (1,))], 1)), [[(0, (1,))]])
        self.assertEqual(list(packings(Table([], 0), [(1, ())], 1)), [[(1, ())]])

    def test_equal_worths(self):
        # Among equally dear packings the first one in the order of the ranks is returned.
        table = Table.plain(4, 4)
        items = [(4, (3,)), (3, (2,)), (2, (1,)), (1, (0,))]
        self.assertEqual(packing_within(table, items, 2), (7, [(4, (3,)), (3, (2,))]))
        items = [(3, (0, 1)), (2, (2, 3)), (4, (0, 2)), (1, (1, 3))]
        self.assertEqual(packing_within(table, items, 2), (5, [(4, (0, 2)), (1, (1, 3))]))
        self.assertEqual([joined(one)[0] for one in packings(table, items, 2)], [5, 5])

    def test_wrong(self):
        table = Table.plain(4, 3)
        bad = [(1, (0, 1)), (2, ()), (3, (1, 0)), (4, (9,))]
        for count in (-1, -10 ** 30):
            self.refuse(BadSize, {"size": count}, packing_within, table, bad, count)
            self.refuse(BadSize, {"size": count}, lambda: list(packings(table, bad, count)))
        for lot in ((1, 0), (4,), (-1,), (0, 0), (0, 1, 4), (10 ** 30,)):
            items = [(1, (0, 1)), (2, ()), (3, lot), (4, (9,))]
            for count in (0, 1, 6):
                self.refuse(BadLot, {"lot": lot}, packing_within, table, items, count)
                self.refuse(BadLot, {"lot": lot}, lambda: list(packings(table, items, count)))

    def test_errors_come_with_the_first_step(self):
        waiting = packings(Table.plain(2, 2), [(1, (5,))], -1)
        self.refuse(BadSize, {"size": -1}, next, waiting)
        waiting = packings(Table.plain(2, 2), [(1, (5,))], 0)
        self.refuse(BadLot, {"lot": (5,)}, next, waiting)

    def test_drawn(self):
        draw = random.Random(222)
        for _ in range(150):
            table = draw_table(draw, draw.randint(0, 6), draw.randint(0, 5))
            items = []
            for _ in range(draw.randint(0, 9)):
                lot = tuple(sorted(draw.sample(range(table.things), draw.randint(0, min(3, table.things)))))
                items.append((draw.randint(-2, 2), lot))
            for count in range(5):
                told = slow_packings(table, items, count)
                self.assertEqual(list(packings(table, items, count)), told)
                found = packing_within(table, items, count)
                if told:
                    best = max(joined(one)[0] for one in told)
                    self.assertEqual(found, (best, [one for one in told if joined(one)[0] == best][0]))
                else:
                    self.assertIsNone(found)

    def test_yielded_lists_are_new(self):
        found = packings(Table.plain(3, 3), [(1, (0,)), (2, (1,)), (3, (2,))], 2)
        next(found).clear()
        self.assertEqual(next(found), [(3, (2,)), (1, (0,))])
