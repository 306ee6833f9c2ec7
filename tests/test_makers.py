"""Points [87] to [92]."""

import itertools
import random

from fewserve.errors import BadTable
from fewserve.makers import Components, box_table, dearest_forest, is_forest, web_table
from fewserve.schemes import Scheme, kept_list
from fewserve.tables import Table
from tests import slow

BAD_WEBS = [
    (0, []), (-1, []), (8, []), (10 ** 30, []), (8, [(0, 1)]), (3, [(0, 1)] * 13), (3, [(0, 3)]), (3, [(3, 0)]),
    (3, [(0, 1), (-1, 2)]), (3, [(0, 1), (2, -1)]), (1, [(0, 1)]), (2, [(0, 1), (10 ** 30, 0)]), (0, [(0, 0)]),
]


def draw_web(draw):
    places = draw.randint(1, 6)
    edges = [(draw.randrange(places), draw.randrange(places)) for _ in range(draw.randint(0, 8))]
    return places, edges


def slow_forest(edges):
    """Return whether no edges close a circle, by taking leaves off until none is left."""
    edges = list(edges)
    while True:
        ends = [end for edge in edges for end in edge]
        leaves = [edge for edge in edges if edge[0] != edge[1] and (ends.count(edge[0]) == 1 or ends.count(edge[1]) == 1)]
        if not leaves:
            return not edges
        edges.remove(leaves[0])


class Connecting(slow.Case):
    def test_ordinary(self):
        components = Components(5)
        self.assertEqual(list(components), [(0,), (1,), (2,), (3,), (4,)])
        self.assertEqual(len(components), 5)
        self.assertIs(components.connect(3, 1), True)
        self.assertIs(components.connect(1, 3), False)
        self.assertIs(components.connect(4, 0), True)
        self.assertEqual(list(components), [(0, 4), (1, 3), (2,)])
        self.assertIs(components.connect(4, 3), True)
        self.assertEqual([part for part in components], [(0, 1, 3, 4), (2,)])
        self.assertEqual(len(components), 2)
        for place in (0, 1, 3, 4):
            self.assertEqual(components.component(place), (0, 1, 3, 4))
        self.assertEqual(components.component(2), (2,))
        self.assertIs((0, 3) in components, True)
        self.assertIs((0, 2) in components, False)
        self.assertIs((2, 2) in components, True)

    def test_edges(self):
        self.assertEqual((list(Components(0)), len(Components(0))), ([], 0))
        one = Components(1)
        self.assertIs(one.connect(0, 0), False)
        self.assertEqual((list(one), len(one), one.component(0), (0, 0) in one), ([(0,)], 1, (0,), True))

    def test_drawn(self):
        draw = random.Random(140)
        for _ in range(100):
            places = draw.randint(1, 12)
            components = Components(places)
            name = list(range(places))
            for _ in range(draw.randint(0, 12)):
                u, v = draw.randrange(places), draw.randrange(places)
                self.assertIs((u, v) in components, name[u] == name[v])
                self.assertIs(components.connect(u, v), name[u] != name[v])
                name = [name[u] if one == name[v] else one for one in name]
                parts = sorted(tuple(k for k in range(places) if name[k] == one) for one in set(name))
                self.assertEqual(list(components), parts)
                self.assertEqual(len(components), len(parts))
                for place in range(places):
                    self.assertEqual(components.component(place), [part for part in parts if place in part][0])
                for u, v in itertools.product(range(places), repeat=2):
                    self.assertIs((u, v) in components, name[u] == name[v])

    def test_objects_are_independent(self):
        first, second = Components(3), Components(3)
        first.connect(0, 1)
        self.assertEqual((len(first), len(second)), (2, 3))
        list(second).clear()
        self.assertEqual(len(second), 3)


class Webs(slow.Case):
    def test_example(self):
        table = web_table(3, [(0, 1), (1, 2)])
        self.assertIs(type(table), Table)
        self.assertEqual((table.things, table.columns), (2, 2))
        self.assertEqual(table.rows_of((0, 1)), [[96, 0], [1, 96]])

    def test_roots(self):
        edges = [(0, 1), (1, 2), (2, 2), (2, 1), (0, 2)]
        self.assertEqual(web_table(3, edges, root=0).show(), web_table(3, edges).show())
        told = [[1, 0], [0, 96], [0, 0], [0, 1], [1, 96]]
        self.assertEqual(web_table(3, edges, root=1).rows_of((0, 1, 2, 3, 4)), told)
        told = [[1, 96], [0, 1], [0, 0], [0, 96], [1, 0]]
        self.assertEqual(web_table(3, edges, root=2).rows_of((0, 1, 2, 3, 4)), told)

    def test_edges(self):
        table = web_table(1, [(0, 0), (0, 0)])
        self.assertEqual((table.things, table.columns, table.rows_of((0, 1))), (2, 0, [[], []]))
        empty = web_table(7, [])
        self.assertEqual((empty.things, empty.columns), (0, 6))
        full = web_table(7, [(6, 0)] * 12, root=6)
        self.assertEqual(full.rows_of((11,)), [[96, 0, 0, 0, 0, 0]])

    def test_drawn(self):
        draw = random.Random(141)
        for _ in range(60):
            places, edges = draw_web(draw)
            copy = list(edges)
            for root in range(places):
                table = web_table(places, edges, root=root)
                self.assertEqual((table.things, table.columns), (len(edges), places - 1))
                for at, (u, v) in enumerate(edges):
                    row = [0] * places
                    row[u] += 1
                    row[v] -= 1
                    del row[root]
                    self.assertEqual(table.row(at), [number % 97 for number in row])
            self.assertEqual(edges, copy)

    def test_wrong(self):
        for places, edges in BAD_WEBS:
            self.refuse(BadTable, {}, web_table, places, edges)
            self.refuse(BadTable, {}, is_forest, places, edges, ())
            self.refuse(BadTable, {}, dearest_forest, places, edges, [1] * len(edges))
        for root in (-1, 3, 10 ** 30):
            self.refuse(BadTable, {}, web_table, 3, [(0, 1)], root=root)
            self.refuse(BadTable, {}, web_table, 3, [], root=root)
        with self.assertRaises(TypeError):
            web_table(3, [(0, 1)], 1)

    def test_list_that_is_passed(self):
        edges = [(0, 1), (1, 2)]
        table = web_table(3, edges)
        edges[0] = (2, 2)
        edges.clear()
        self.assertEqual(table.rows_of((0, 1)), [[96, 0], [1, 96]])

    def test_the_kept_list_is_the_same_for_every_root(self):
        draw = random.Random(142)
        for _ in range(60):
            places, edges = draw_web(draw)
            for size in range(min(places, len(edges) + 1)):
                items = slow.draw_items(draw, draw.randint(0, 8), len(edges), size, 3)
                told = kept_list(Scheme(web_table(places, edges), size), items)
                for root in range(places):
                    self.assertEqual(kept_list(Scheme(web_table(places, edges, root=root), size), items), told)


class Forests(slow.Case):
    def test_ordinary(self):
        edges = [(0, 1), (1, 2), (2, 0), (2, 2), (1, 0)]
        for chosen, told in (
            ((), True), ((0,), True), ((0, 1), True), ((2, 0), True), ((0, 1, 2), False), ((3,), False), ((0, 4), False),
            ((0, 0), False), ((1, 4), True), ((1, 4, 1), False), ((3, 0), False),
        ):
            self.assertIs(is_forest(3, edges, chosen), told)
        self.assertIs(is_forest(1, [], ()), True)
        self.assertIs(is_forest(1, [(0, 0)], (0,)), False)

    def test_drawn(self):
        draw = random.Random(143)
        right = wrong = 0
        for _ in range(150):
            places, edges = draw_web(draw)
            tables = [web_table(places, edges, root=root) for root in range(places)]
            copy = list(edges)
            for _ in range(8):
                many = draw.randint(0, min(places, len(edges)))
                chosen = tuple(draw.sample(range(len(edges)), many))
                if many and draw.randrange(5) == 0:
                    chosen = chosen + chosen[:1]
                told = len(set(chosen)) == len(chosen) and slow_forest([edges[k] for k in chosen])
                self.assertIs(is_forest(places, edges, chosen), told)
                right += told
                wrong += not told
                for table in tables:
                    self.assertIs(table.free(chosen), told)
            self.assertEqual(edges, copy)
        self.assertGreater(right, 200)
        self.assertGreater(wrong, 200)

    def test_dearest(self):
        edges = [(0, 1), (1, 2), (2, 0), (2, 2), (1, 0), (3, 0)]
        worths = [5, 7, 6, 100, 7, -(10 ** 30)]
        told = [(7, (1,)), (7, (4,)), (-(10 ** 30), (5,))]
        self.assertEqual(dearest_forest(4, edges, worths), told)
        self.assertEqual(dearest_forest(5, edges, worths), told)
        self.assertEqual(dearest_forest(3, edges[:3], [1, 1, 1]), [(1, (0,)), (1, (1,))])
        self.assertEqual(dearest_forest(1, [(0, 0)], [5]), [])
        self.assertEqual(dearest_forest(1, [], []), [])
        self.assertEqual(dearest_forest(7, [], []), [])
        dearest_forest(4, edges, worths).clear()
        self.assertEqual(worths, [5, 7, 6, 100, 7, -(10 ** 30)])
        self.assertEqual(len(edges), 6)

    def test_dearest_drawn(self):
        draw = random.Random(144)
        for _ in range(150):
            places, edges = draw_web(draw)
            worths = [draw.randint(-3, 3) for _ in edges]
            found = dearest_forest(places, edges, worths)
            told = []
            for worth, lot in slow.rank_order([(worth, (at,)) for at, worth in enumerate(worths)]):
                if slow_forest([edges[one[0]] for _, one in told] + [edges[lot[0]]]):
                    told.append((worth, lot))
            self.assertEqual(found, told)
            items = [(worth, (at,)) for at, worth in enumerate(worths)]
            for root in range(places if places > 1 else 0):
                scheme = Scheme(web_table(places, edges, root=root), 1)
                self.assertEqual(kept_list(scheme, items), found)


class Boxes(slow.Case):
    def test_ordinary(self):
        table = box_table([1, 0, 1, 2], 3)
        self.assertIs(type(table), Table)
        self.assertEqual((table.things, table.columns), (4, 3))
        self.assertEqual(table.rows_of((0, 1, 2, 3)), [[0, 1, 0], [1, 0, 0], [0, 1, 0], [0, 0, 1]])

    def test_edges(self):
        empty = box_table([], 0)
        self.assertEqual((empty.things, empty.columns), (0, 0))
        wide = box_table([], 6)
        self.assertEqual((wide.things, wide.columns), (0, 6))
        self.assertEqual(box_table([5] * 12, 6).rows_of((0, 11)), [[0, 0, 0, 0, 0, 1]] * 2)

    def test_wrong(self):
        for boxes, columns in (
            ([0], 0), ([1], 1), ([-1], 2), ([0, 1, 2], 2), ([0, -3], 3), ([10 ** 30], 3), ([0] * 13, 3), ([], 7), ([0], 7),
            ([], -1), ([0], -1), ([0], 10 ** 30), ([10 ** 30] * 13, 10 ** 30), ([-(10 ** 30)], 6),
        ):
            self.refuse(BadTable, {}, box_table, boxes, columns)

    def test_drawn(self):
        draw = random.Random(145)
        for _ in range(80):
            columns = draw.randint(1, 6)
            boxes = [draw.randrange(columns) for _ in range(draw.randint(0, 8))]
            copy = list(boxes)
            table = box_table(boxes, columns)
            for things in itertools.chain(slow.asks(len(boxes), 3), [(0, 0), (1, 0)] if len(boxes) > 1 else []):
                own = [boxes[thing] for thing in things]
                self.assertIs(table.free(things), len(set(own)) == len(own))
            self.assertEqual(boxes, copy)

    def test_list_that_is_passed(self):
        boxes = [0, 1]
        table = box_table(boxes, 2)
        boxes[0] = 1
        boxes.append(0)
        self.assertEqual((table.things, table.row(0)), (2, [1, 0]))
