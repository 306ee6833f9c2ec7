"""Points [113] to [118]."""

import itertools
import random

from fewserve.errors import BadSize, BadTable, ServeError, UnknownItem
from fewserve.tables import Table
from fewserve.ways import best_way, trace, way_lists
from fewserve.webs import Web
from tests import slow
from tests.drawn import draw_table
from tests.test_webs import draw_steps, slow_ways


class Drawing:
    """A drawn web and table, and all free ways of it."""

    def __init__(self, draw, most_places=6, most_columns=4):
        self.places = draw.randint(0, most_places)
        self.steps = draw_steps(draw, self.places, draw.choice([1, 2, 2, 3]), draw.choice([0, 1, 3]))
        self.web = Web(self.places, self.steps)
        self.table = draw_table(draw, self.places, draw.randint(1, most_columns))
        self.counts = list(range(1, self.table.columns + 1))

    def free_ways(self, count):
        """Return all free ways of that many places with their items, in ascending order."""
        found = []
        for way, worth in slow_ways(self.places, self.steps, count):
            if slow.independent(self.table.rows_of(way)):
                found.append((way, (worth, tuple(sorted(way)))))
        return found

    def kept(self, items):
        return slow.kept_list(lambda lot: slow.minors(self.table.rows_of(lot), self.table.columns), items)

    def stage(self, count, start=None):
        """Return the kept lists of all free ways that end at each place."""
        ways = self.free_ways(count)
        if start is not None:
            ways = [(way, item) for way, item in ways if way[0] == start and all(place > start for place in way[1:])]
        return [self.kept([item for way, item in ways if way[-1] == place]) for place in range(self.places)]


def errors_of_counts(case, function, least):
    """Check the errors of a function that is passed a web, a table and a count."""
    web = Web(3, [(0, 1, 1), (1, 2, 1), (2, 0, 1)])
    for things in (0, 1, 2, 4, 12):
        for count in (-1, 0, 1, 2, 9):
            case.refuse(BadTable, {}, function, web, Table.plain(things, 2), count)
    for columns in range(7):
        for count in (-10 ** 30, -1, 0, least - 1, columns + 1, columns + 2, 10 ** 30):
            case.refuse(BadSize, {"size": count}, function, web, Table.plain(3, columns), count)
    nowhere = Web(0, [])
    case.refuse(BadSize, {"size": 1}, function, nowhere, Table([], 0), 1)
    case.refuse(BadTable, {}, function, nowhere, Table([[1]], 1), 1)
    case.assertEqual((BadSize.__bases__, BadTable.__bases__), ((ServeError,), (ServeError,)))


class Lists(slow.Case):
    def test_ordinary(self):
        web = Web(3, [(0, 1, 5), (1, 2, 3), (2, 0, 1), (0, 2, -1)])
        table = Table.plain(3, 2)
        told = [
            [[(0, (0,))], [(0, (1,))], [(0, (2,))]],
            [[(1, (0, 2))], [(5, (0, 1))], [(3, (1, 2)), ]],
        ]
        # In two columns all rows of lots of two things are multiples of each other.
        self.assertEqual(way_lists(web, table, 2), told)
        self.assertEqual(way_lists(web, table, 1), told[:1])
        three = way_lists(web, Table.plain(3, 3), 3)
        self.assertEqual(three[1][2], [(3, (1, 2)), (-1, (0, 2))])
        self.assertEqual(three[2], [[(4, (0, 1, 2))], [(6, (0, 1, 2))], [(8, (0, 1, 2))]])

    def test_edges(self):
        self.assertEqual(way_lists(Web(0, []), Table([], 3), 3), [[], [], []])
        lonely = Web(2, [])
        self.assertEqual(way_lists(lonely, Table.plain(2, 2), 2), [[[(0, (0,))], [(0, (1,))]], [[], []]])
        zero = Table([[0, 0], [1, 0], [2, 0]], 2)
        both = Web(3, [(u, v, 1) for u, v in itertools.permutations(range(3), 2)])
        self.assertEqual(way_lists(both, zero, 2), [[[], [(0, (1,))], [(0, (2,))]], [[], [], []]])

    def test_start(self):
        web = Web(3, [(0, 1, 5), (1, 2, 3), (2, 0, 1), (0, 2, -1), (2, 1, 0), (1, 0, 9)])
        table = Table.plain(3, 3)
        self.assertEqual(way_lists(web, table, 3, start=0), [
            [[(0, (0,))], [], []],
            [[], [(5, (0, 1))], [(-1, (0, 2))]],
            [[], [(-1, (0, 1, 2))], [(8, (0, 1, 2))]],
        ])
        self.assertEqual(way_lists(web, table, 2, start=1), [[[], [(0, (1,))], []], [[], [], [(3, (1, 2))]]])
        self.assertEqual(way_lists(web, table, 2, start=2), [[[], [], [(0, (2,))]], [[], [], []]])
        with self.assertRaises(TypeError):
            way_lists(web, table, 2, 1)

    def test_wrong(self):
        errors_of_counts(self, way_lists, 1)
        errors_of_counts(self, lambda web, table, count: way_lists(web, table, count, start=0), 1)

    def test_drawn(self):
        draw = random.Random(190)
        for _ in range(60):
            drawn = Drawing(draw)
            before = drawn.web.steps, drawn.table.show()
            told = [drawn.stage(size) for size in drawn.counts]
            for count in drawn.counts:
                self.assertEqual(way_lists(drawn.web, drawn.table, count), told[:count])
            self.assertEqual((drawn.web.steps, drawn.table.show()), before)

    def test_starts_drawn(self):
        draw = random.Random(191)
        for _ in range(40):
            drawn = Drawing(draw)
            for start in range(drawn.places):
                found = way_lists(drawn.web, drawn.table, drawn.counts[-1], start=start)
                self.assertEqual(found, [drawn.stage(size, start) for size in drawn.counts])

    def test_few_items(self):
        draw = random.Random(192)
        table = Table.plain(9, 5)
        web = Web(9, draw_steps(draw, 9, 1, 50))
        for at, stage in enumerate(way_lists(web, table, 5)):
            self.assertTrue(all(len(items) <= (1, 4, 6, 4, 1)[at] for items in stage))
        for at, stage in enumerate(way_lists(web, table, 5, start=2)):
            self.assertTrue(all(len(items) <= (1, 1, 3, 3, 1)[at] for items in stage))

    def test_returned_lists_are_new(self):
        web = Web(3, [(0, 1, 5), (1, 2, 3)])
        first = way_lists(web, Table.plain(3, 2), 2)
        first[0][0].clear()
        first[1].clear()
        self.assertEqual(way_lists(web, Table.plain(3, 2), 2)[0][0], [(0, (0,))])


class Tracing(slow.Case):
    def test_ordinary(self):
        web = Web(4, [(0, 2, 5), (1, 2, 5), (0, 1, 1), (1, 0, 1), (2, 3, -1)])
        lists = way_lists(web, Table.plain(4, 4), 4)
        self.assertEqual(trace(web, lists[:1], 3, (0, (3,))), (3,))
        # Both 0, 1, 2 and 1, 0, 2 have the item; 0 is the lesser place before 2.
        self.assertEqual(trace(web, lists[:3], 2, (6, (0, 1, 2))), (1, 0, 2))
        self.assertEqual(trace(web, lists, 3, (5, (0, 1, 2, 3))), (1, 0, 2, 3))

    def test_unknown_items(self):
        web = Web(3, [(0, 1, 5), (1, 2, 3)])
        lists = way_lists(web, Table.plain(3, 3), 2)
        for place, item in (
            (1, (4, (0, 1))), (1, (5, (0, 2))), (2, (5, (0, 1))), (0, (0, (0,))), (1, (5, ())), (0, (5, (0, 1))),
        ):
            self.refuse(UnknownItem, {"item": item}, trace, web, lists, place, item)
        self.refuse(UnknownItem, {"item": (5, (0, 1))}, trace, web, lists[:1], 1, (5, (0, 1)))
        self.assertEqual(UnknownItem.__bases__, (ServeError,))

    def test_drawn(self):
        draw = random.Random(193)
        several = 0
        for _ in range(50):
            drawn = Drawing(draw)
            for start in [None] + list(range(drawn.places)):
                lists = way_lists(drawn.web, drawn.table, drawn.counts[-1], start=start)
                before = [[list(items) for items in stage] for stage in lists]
                for count in drawn.counts:
                    for place, items in enumerate(lists[count - 1]):
                        for item in items:
                            way = trace(drawn.web, lists[:count], place, item)
                            told = self.slow_trace(drawn, lists, count, place, item)
                            self.assertEqual(way, told)
                            own = [one for one, other in drawn.free_ways(count) if other == item and one[-1] == place]
                            self.assertIn(way, own)
                            self.assertEqual(start if start is not None else way[0], way[0])
                            several += len(own) > 1
                self.assertEqual(lists, before)
        self.assertGreater(several, 20)

    def slow_trace(self, drawn, lists, count, place, item):
        """Return the least of all ways backwards whose items are all listed."""
        found = []
        for way, other in drawn.free_ways(count):
            if other == item and way[-1] == place:
                items = [drawn.web.way_worth(way[:many]) for many in range(1, count + 1)]
                lots = [tuple(sorted(way[:many])) for many in range(1, count + 1)]
                if all(one in lists[at][way[at]] for at, one in enumerate(zip(items, lots))):
                    found.append(way[::-1])
        return min(found)[::-1]


class Best(slow.Case):
    def test_ordinary(self):
        web = Web(3, [(0, 1, 5), (1, 2, 3), (2, 0, 1), (0, 2, -1)])
        table = Table.plain(3, 3)
        self.assertEqual(best_way(web, table, 1), (0, (0,)))
        self.assertEqual(best_way(web, table, 2), (5, (0, 1)))
        self.assertEqual(best_way(web, table, 3), (8, (0, 1, 2)))
        self.assertEqual(best_way(web, table, 2, end=2), (3, (1, 2)))
        self.assertEqual(best_way(web, table, 2, end=0), (1, (2, 0)))
        with self.assertRaises(TypeError):
            best_way(web, table, 2, 2)

    def test_none(self):
        web = Web(4, [(0, 1, 5), (1, 2, 3)])
        table = Table.plain(4, 4)
        self.assertIsNone(best_way(web, table, 4))
        self.assertIsNone(best_way(web, table, 2, end=0))
        self.assertIsNone(best_way(web, table, 3, end=3))
        self.assertIsNone(best_way(Web(0, []), Table([], 1), 1))
        self.assertIsNone(best_way(Web(1, []), Table([[0]], 1), 1))
        self.assertEqual(best_way(web, Table([[0], [5], [0], [1]], 1), 1), (0, (1,)))

    def test_equal_worths(self):
        both = Web(4, [(u, v, 7) for u, v in itertools.permutations(range(4), 2)])
        table = Table.plain(4, 4)
        # The lot 0, 1, 2 is the least one, 0 is the least place at its end, and 1 the least one before that.
        self.assertEqual(best_way(both, table, 3), (14, (2, 1, 0)))
        self.assertEqual(best_way(both, table, 3, end=3), (14, (1, 0, 3)))
        negative = Web(3, [(0, 1, -5), (1, 0, -5), (1, 2, -5)])
        self.assertEqual(best_way(negative, Table.plain(3, 2), 2), (-5, (1, 0)))

    def test_wrong(self):
        errors_of_counts(self, best_way, 1)
        errors_of_counts(self, lambda web, table, count: best_way(web, table, count, end=1), 1)

    def test_drawn(self):
        draw = random.Random(194)
        none = some = 0
        for _ in range(80):
            drawn = Drawing(draw)
            for count in drawn.counts:
                for end in [None] + list(range(drawn.places)):
                    ways = [(way, item) for way, item in drawn.free_ways(count) if end in (None, way[-1])]
                    found = best_way(drawn.web, drawn.table, count, end=end)
                    if not ways:
                        self.assertIsNone(found)
                        none += 1
                        continue
                    some += 1
                    best = slow.rank_order([item for _, item in ways])[0]
                    self.assertEqual(found[0], best[0])
                    lists = way_lists(drawn.web, drawn.table, count)
                    last = min(way[-1] for way, item in ways if item == best)
                    self.assertEqual(found[1], trace(drawn.web, lists, last, best))
        self.assertGreater(none, 20)
        self.assertGreater(some, 200)
