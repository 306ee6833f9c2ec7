"""Points [113] and [119]."""

import itertools
import random

from fewserve.rounds import best_round
from fewserve.tables import Table
from fewserve.ways import trace, way_lists
from fewserve.webs import Web
from tests import slow
from tests.test_ways import Drawing, errors_of_counts


def all_rounds(drawn, count):
    """Return the worth, the lot and the way of each round, going through all free ways."""
    back = {(u, v): worth for u, v, worth in drawn.steps}
    found = []
    for way, (worth, lot) in drawn.free_ways(count):
        if way[0] == min(way) and (way[-1], way[0]) in back:
            found.append((worth + back[way[-1], way[0]], lot, way))
    return found


class Rounds(slow.Case):
    def test_ordinary(self):
        web = Web(4, [(0, 1, 5), (1, 2, 3), (2, 0, 1), (1, 0, -9), (2, 3, 4), (3, 2, 1), (3, 0, 2)])
        table = Table.plain(4, 4)
        self.assertEqual(best_round(web, table, 2), (5, (2, 3)))
        self.assertEqual(best_round(web, table, 3), (9, (0, 1, 2)))
        self.assertEqual(best_round(web, table, 4), (14, (0, 1, 2, 3)))

    def test_none(self):
        web = Web(4, [(0, 1, 5), (1, 2, 3), (2, 0, 1)])
        self.assertIsNone(best_round(web, Table.plain(4, 4), 2))
        self.assertEqual(best_round(web, Table.plain(4, 4), 3), (9, (0, 1, 2)))
        self.assertIsNone(best_round(web, Table.plain(4, 4), 4))
        self.assertIsNone(best_round(web, Table([[1, 0, 0], [0, 1, 0], [1, 1, 0], [0, 0, 1]], 3), 3))
        self.assertIsNone(best_round(Web(0, []), Table([], 2), 2))
        self.assertIsNone(best_round(Web(1, []), Table([[1, 1]], 2), 2))

    def test_the_step_back_counts(self):
        web = Web(3, [(0, 1, 1), (1, 0, 1), (0, 2, 9), (2, 0, -9), (1, 2, 0), (2, 1, 1)])
        self.assertEqual(best_round(web, Table.plain(3, 3), 2), (2, (0, 1)))

    def test_equal_worths(self):
        both = Web(4, [(u, v, 7) for u, v in itertools.permutations(range(4), 2)])
        table = Table.plain(4, 4)
        self.assertEqual(best_round(both, table, 2), (14, (0, 1)))
        # Of the ways around 0, 1, 2 the one that ends at 1 has the least last place.
        self.assertEqual(best_round(both, table, 3), (21, (0, 2, 1)))
        self.assertEqual(best_round(both, table, 4)[1][-1], 1)
        # The lot 0, 3 is less than the lot 1, 2.
        web = Web(4, [(1, 2, 1), (2, 1, 1), (3, 0, 1), (0, 3, 1)])
        self.assertEqual(best_round(web, table, 2), (2, (0, 3)))
        # A greater last place with a greater worth wins.
        web = Web(3, [(0, 1, 1), (1, 2, 1), (2, 0, 1), (0, 2, 1), (2, 1, 1), (1, 0, 0)])
        self.assertEqual(best_round(web, Table.plain(3, 3), 3), (3, (0, 1, 2)))

    def test_wrong(self):
        errors_of_counts(self, best_round, 2)

    def test_drawn(self):
        draw = random.Random(200)
        some = none = 0
        for _ in range(150):
            drawn = Drawing(draw)
            before = drawn.web.steps, drawn.table.show()
            for count in drawn.counts[1:]:
                rounds = all_rounds(drawn, count)
                found = best_round(drawn.web, drawn.table, count)
                if not rounds:
                    self.assertIsNone(found)
                    none += 1
                    continue
                some += 1
                worth, lot, way = min(rounds, key=lambda one: (-one[0], one[1], one[2][-1]))
                lists = way_lists(drawn.web, drawn.table, count, start=way[0])
                item = (drawn.web.way_worth(way), lot)
                self.assertEqual(found, (worth, trace(drawn.web, lists, way[-1], item)))
                self.assertIn((worth, lot, found[1]), rounds)
            self.assertEqual((drawn.web.steps, drawn.table.show()), before)
        self.assertGreater(some, 50)
        self.assertGreater(none, 50)
