"""Points [132] to [136]."""

import itertools
import random

from fewserve.errors import BadLot, BadSize, BadTable, ServeError
from fewserve.meetings import cheapest_meeting, meeting_kernel, meets, minimal_meetings
from fewserve.tables import Table
from tests import slow


def slow_meets(items, things):
    return all(set(lot) & set(things) for _, lot in items)


def slow_minimal(items, most, things=12):
    found = []
    for chosen in slow.asks(things, most):
        smaller = [rest for many in range(len(chosen)) for rest in itertools.combinations(chosen, many)]
        if slow_meets(items, chosen) and not any(slow_meets(items, rest) for rest in smaller):
            found.append(chosen)
    return found


def slow_cheapest(items, costs, most):
    found = []
    for chosen in slow.asks(len(costs), most):
        if slow_meets(items, chosen):
            found.append((sum(costs[thing] for thing in chosen), len(chosen), chosen))
    return (min(found)[0], min(found)[2]) if found else None


def draw_lots(draw, things, many, sizes):
    found = []
    for _ in range(many):
        lot = tuple(sorted(draw.sample(range(things), min(things, draw.choice(sizes)))))
        found.append((draw.randint(-2, 2), lot))
    return found


class Meeting(slow.Case):
    def test_ordinary(self):
        items = [(5, (0, 1)), (3, (1, 2)), (1, (3,))]
        for things, told in (
            ((1, 3), True), ((3, 1), True), ((0, 2, 3), True), ((1,), False), ((3,), False), ((), False), ((0, 1, 2), False),
            ((0, 1, 2, 3, 4), True), ((0, 3), False), ((11,), False), ((1, 1, 3), True),
        ):
            self.assertIs(meets(items, things), told)
        self.assertIs(meets([], ()), True)
        self.assertIs(meets([], (5,)), True)
        for things in ((), (0,), tuple(range(12))):
            self.assertIs(meets([(1, ())], things), False)
            self.assertIs(meets([(1, ()), (1, (0,))], things), False)


class Minimal(slow.Case):
    def test_ordinary(self):
        items = [(5, (0, 1)), (3, (1, 2)), (1, (3,))]
        self.assertEqual(minimal_meetings(items, 3), [(1, 3), (0, 2, 3)])
        self.assertEqual(minimal_meetings(items, 2), [(1, 3)])
        self.assertEqual(minimal_meetings(items, 1), [])
        self.assertEqual(minimal_meetings(items, 6), [(1, 3), (0, 2, 3)])
        self.assertEqual(items, [(5, (0, 1)), (3, (1, 2)), (1, (3,))])

    def test_edges(self):
        for most in (0, 1, 6):
            self.assertEqual(minimal_meetings([], most), [()])
            self.assertEqual(minimal_meetings([(1, ())], most), [])
            self.assertEqual(minimal_meetings([(1, (0,)), (1, ())], most), [])
        self.assertEqual(minimal_meetings([(1, (0, 11))], 0), [])
        self.assertEqual(minimal_meetings([(1, (0, 11)), (2, (0, 11))], 1), [(0,), (11,)])
        for items in ([], [(1, (0,))]):
            self.assertEqual(minimal_meetings(items, -1), [])

    def test_drawn(self):
        draw = random.Random(230)
        found = 0
        for _ in range(80):
            things = draw.choice([4, 6, 8])
            items = draw_lots(draw, things, draw.randint(0, 7), draw.choice([[1, 2, 3], [2], [3], [0, 1, 5]]))
            most = draw.randint(0, 4)
            told = slow_minimal(items, most, 8)
            self.assertEqual(minimal_meetings(items, most), told)
            found += len(told)
        self.assertGreater(found, 100)

    def test_returned_list_is_new(self):
        minimal_meetings([(1, (0,))], 1).clear()
        self.assertEqual(minimal_meetings([(1, (0,))], 1), [(0,)])


class Cheapest(slow.Case):
    def test_ordinary(self):
        items = [(5, (0, 1)), (3, (1, 2)), (1, (3,))]
        self.assertEqual(cheapest_meeting(items, [1, 5, 1, 1], 3), (3, (0, 2, 3)))
        self.assertEqual(cheapest_meeting(items, [1, 5, 1, 1], 2), (6, (1, 3)))
        self.assertIsNone(cheapest_meeting(items, [1, 5, 1, 1], 1))
        self.assertIsNone(cheapest_meeting(items, [1, 5, 1, 1], -1))
        costs = [1, 5, 1, 1]
        cheapest_meeting(items, costs, 3)
        self.assertEqual(costs, [1, 5, 1, 1])

    def test_edges(self):
        for most in (0, 6):
            self.assertEqual(cheapest_meeting([], [], most), (0, ()))
            self.assertEqual(cheapest_meeting([], [0, 0], most), (0, ()))
            self.assertIsNone(cheapest_meeting([(1, ())], [0], most))
        self.assertIsNone(cheapest_meeting([], [1], -1))

    def test_equal_costs(self):
        items = [(1, (0, 1)), (1, (1, 2))]
        self.assertEqual(cheapest_meeting(items, [0, 0, 0], 3), (0, (1,)))
        self.assertEqual(cheapest_meeting(items, [0, 1, 0], 3), (0, (0, 2)))
        self.assertEqual(cheapest_meeting(items, [1, 2, 1], 3), (2, (1,)))
        self.assertEqual(cheapest_meeting([(1, (3, 5))], [0] * 6, 2), (0, (3,)))
        self.assertEqual(cheapest_meeting([(1, (0, 1)), (1, (2, 3))], [2, 1, 1, 2], 2), (2, (1, 2)))
        self.assertEqual(cheapest_meeting([(1, (0, 1)), (1, (2, 3))], [1, 1, 1, 1], 2), (2, (0, 2)))

    def test_drawn(self):
        draw = random.Random(231)
        none = 0
        for _ in range(120):
            things = draw.choice([4, 6, 8])
            items = draw_lots(draw, things, draw.randint(0, 7), draw.choice([[1, 2, 3], [2], [3], [0, 1, 5]]))
            costs = [draw.randint(0, draw.choice([0, 2, 9])) for _ in range(things)]
            most = draw.randint(0, 4)
            told = slow_cheapest(items, costs, most)
            self.assertEqual(cheapest_meeting(items, costs, most), told)
            none += told is None
        self.assertGreater(none, 10)


class Kernels(slow.Case):
    def test_ordinary(self):
        items = [(1, (0,)), (5, (1,)), (3, (2,)), (4, (3,))]
        self.assertEqual(meeting_kernel(items, 4, 1, 1), [(5, (1,)), (4, (3,))])
        self.assertEqual(meeting_kernel(items, 4, 1, 0), [(5, (1,))])
        self.assertEqual(meeting_kernel(items, 12, 1, 5), [(5, (1,)), (4, (3,)), (3, (2,)), (1, (0,))])
        self.assertEqual(meeting_kernel([(3, ()), (5, ())], 0, 0, 6), [(5, ())])
        self.assertEqual(meeting_kernel([], 0, 0, 0), [])
        self.assertEqual(items, [(1, (0,)), (5, (1,)), (3, (2,)), (4, (3,))])

    def test_wrong(self):
        bad = [(1, (0,)), (1, (0, 9))]
        for things, size, most in ((13, 1, 1), (4, 3, 4), (4, -1, 0), (4, 0, -1), (13, -1, 3), (4, 10 ** 30, 0), (4, -9, 2), (13, 9, 9)):
            self.refuse(BadTable, {}, meeting_kernel, bad, things, size, most)
        for size, most in ((-1, 1), (-1, 7), (3, -1), (1, -1), (7, -1), (-3, 9), (-10 ** 30, 10 ** 30 + 3)):
            for things in (0, 4, 12):
                self.refuse(BadSize, {"size": size}, meeting_kernel, bad, things, size, most)
        self.refuse(BadLot, {"lot": (0,)}, meeting_kernel, bad, 4, 2, 1)
        self.refuse(BadLot, {"lot": (0, 9)}, meeting_kernel, bad[1:] + bad, 4, 2, 1)
        self.refuse(BadLot, {"lot": (0, 9)}, meeting_kernel, bad, 4, 1, 1)
        self.refuse(BadLot, {"lot": (1, 0)}, meeting_kernel, [(1, (1, 0))], 4, 2, 1)
        self.refuse(BadLot, {"lot": (0,)}, meeting_kernel, [(1, (0,))], 0, 1, 1)
        for error in (BadTable, BadSize, BadLot):
            self.assertEqual(error.__bases__, (ServeError,))

    def test_drawn(self):
        draw = random.Random(232)
        shorter = 0
        for _ in range(60):
            things = draw.randint(2, 8)
            size = draw.randint(0, min(3, things))
            most = draw.randint(0, 4 - size)
            items = slow.draw_items(draw, draw.randint(0, 15), things, size, 3)
            few = meeting_kernel(items, things, size, most)
            table = Table.plain(things, size + most)
            self.assertEqual(few, slow.kept_list(lambda lot: slow.minors(table.rows_of(lot), table.columns), items))
            shorter += len(few) < len(set(items))
            for chosen in slow.asks(things, most):
                self.assertIs(meets(few, chosen), slow_meets(items, chosen))
            costs = [draw.randint(0, 3) for _ in range(things)]
            for fewer in range(most + 1):
                self.assertEqual(minimal_meetings(few, fewer), minimal_meetings(items, fewer))
                self.assertEqual(cheapest_meeting(few, costs, fewer), cheapest_meeting(items, costs, fewer))
        self.assertGreater(shorter, 15)
