"""Points [84] and [85]."""

import random

from fewserve.asking import profile
from fewserve.boards import Board
from fewserve.errors import BadAsk, BadLot
from fewserve.kinds import Kinds
from fewserve.least import least_list
from fewserve.schemes import Scheme
from fewserve.tables import Table
from tests import slow
from tests.drawn import draw_scheme


def small():
    return Scheme(Table.plain(3, 2), 1)


def state(board, asks):
    return [board.first(ask) for ask in asks], list(board), len(board)


class Boards(slow.Case):
    def test_ordinary(self):
        scheme = small()
        board = Board(scheme)
        self.assertIs(board.scheme, scheme)
        self.assertEqual(board.take(3, (2,)), [(), (0,), (1,)])
        self.assertEqual(board.take(5, (0,)), [(), (1,), (2,)])
        self.assertEqual(board.take(4, (1,)), [(0,)])
        self.assertEqual(board.take(4, (1,)), [])
        self.assertEqual(board.take(3, (1,)), [])
        self.assertEqual([board.first(ask) for ask in ((), (0,), (1,), (2,))], [(5, (0,)), (4, (1,)), (5, (0,)), (5, (0,))])
        self.assertEqual(board.asks_of((5, (0,))), [(), (1,), (2,)])
        self.assertEqual(board.asks_of((4, (1,))), [(0,)])
        for item in ((3, (2,)), (4, (0,)), (5, (1,)), (5, ()), (9, (7,))):
            self.assertEqual(board.asks_of(item), [])
        self.assertEqual(list(board), [(5, (0,)), (4, (1,))])
        self.assertEqual([item for item in board], [(5, (0,)), (4, (1,))])
        self.assertEqual(len(board), 2)

    def test_edges(self):
        for items in ([], ()):
            board = Board(small(), items)
            self.assertEqual(state(board, [(), (0,)]), ([None, None], [], 0))
        zero = Board(Scheme(Table([[0]], 1), 1))
        self.assertEqual(zero.take(5, (0,)), [])
        self.assertEqual(state(zero, [()]), ([None], [], 0))
        nothing = Board(Scheme(Table([], 0), 0), [(1, ())])
        self.assertEqual(nothing.take(0, ()), [])
        self.assertEqual(nothing.take(10 ** 30, ()), [()])
        self.assertEqual(state(nothing, [()]), ([(10 ** 30, ())], [(10 ** 30, ())], 1))
        whole = Board(Scheme(Table.plain(3, 2), 2))
        self.assertEqual((whole.take(1, (1, 2)), whole.take(1, (0, 1))), ([()], [()]))

    def test_equal_worths(self):
        board = Board(small(), [(2, (1,))])
        self.assertEqual(board.take(2, (2,)), [(1,)])
        self.assertEqual(board.take(2, (0,)), [(), (1,), (2,)])
        self.assertEqual(list(board), [(2, (0,)), (2, (1,))])

    def test_kinds(self):
        kinds = Kinds([Table.plain(2, 2), Table.plain(2, 1)], [1, 0])
        board = Board(kinds)
        self.assertEqual(board.take(4, (0,)), [(), (1,), (2,), (3,), (1, 2), (1, 3)])
        self.assertEqual(board.take(9, (1,)), [(), (0,), (2,), (3,), (0, 2), (0, 3)])
        self.assertEqual(board.first((0, 3)), (9, (1,)))
        self.refuse(BadAsk, {"ask": (2, 3)}, board.first, (2, 3))

    def test_drawn(self):
        draw = random.Random(130)
        for _ in range(120):
            drawn = draw_scheme(draw)
            start = drawn.items(draw, 3)
            copy = list(start)
            board = Board(drawn.scheme, start)
            taken = list(start)
            start.append("changed")
            for item in drawn.items(draw, 8, 2):
                old = {ask: drawn.first(taken, ask) for ask in drawn.asks}
                taken.append(item)
                new = {ask: drawn.first(taken, ask) for ask in drawn.asks}
                self.assertEqual(board.take(*item), [ask for ask in drawn.asks if old[ask] != new[ask]])
                self.assertEqual([board.first(ask) for ask in drawn.asks], list(new.values()))
                for one in set(taken):
                    self.assertEqual(board.asks_of(one), [ask for ask in drawn.asks if new[ask] == one])
            self.assertEqual(taken[:len(copy)], copy)
            self.assertEqual([(ask, board.first(ask)) for ask in drawn.asks], profile(drawn.scheme, taken))
            self.assertEqual(list(board), least_list(drawn.scheme, taken))
            self.assertEqual(len(board), len(list(board)))
            self.assertLessEqual(len(board), drawn.scheme.width)
            again = Board(drawn.scheme, taken)
            self.assertEqual(state(again, drawn.asks), state(board, drawn.asks))

    def test_errors(self):
        draw = random.Random(131)
        for _ in range(40):
            drawn = draw_scheme(draw)
            items = drawn.items(draw, 4)
            board = Board(drawn.scheme, items)
            told = state(board, drawn.asks)
            for lot in drawn.bad_lots():
                self.refuse(BadLot, {"lot": lot}, board.take, 100, lot)
                self.refuse(BadLot, {"lot": lot}, board.take, -100, lot)
                self.refuse(BadLot, {"lot": lot}, Board, drawn.scheme, items + [(1, lot), (2, drawn.bad_lots()[0])])
            for ask in drawn.bad_asks():
                self.refuse(BadAsk, {"ask": ask}, board.first, ask)
            self.assertEqual(state(board, drawn.asks), told)

    def test_a_bad_lot_that_would_change_nothing(self):
        board = Board(small(), [(5, (0,)), (5, (1,))])
        for lot in ((), (0, 1), (3,), (-1,)):
            self.refuse(BadLot, {"lot": lot}, board.take, 1, lot)

    def test_returned_lists_are_new(self):
        board = Board(small(), [(5, (0,)), (3, (2,))])
        told = state(board, [(), (0,), (1,), (2,)])
        board.asks_of((5, (0,))).clear()
        list(board).clear()
        self.assertEqual(board.asks_of((5, (0,))), [(), (1,), (2,)])
        self.assertEqual(state(board, [(), (0,), (1,), (2,)]), told)
        board.take(9, (1,)).clear()
        self.assertEqual(board.asks_of((9, (1,))), [(), (0,), (2,)])

    def test_great_stream(self):
        draw = random.Random(132)
        scheme = Scheme(Table.plain(12, 6), 5)
        items = slow.draw_items(draw, 200, 12, 5, 1000)
        board = Board(scheme)
        for worth, lot in items:
            board.take(worth, lot)
        self.assertEqual(list(board), least_list(scheme, items))


class Unions(slow.Case):
    def test_ordinary(self):
        scheme = small()
        left, right = Board(scheme, [(5, (0,)), (1, (1,))]), Board(scheme, [(3, (2,))])
        both = left | right
        self.assertIs(type(both), Board)
        self.assertIs(both.scheme, scheme)
        self.assertEqual(list(both), [(5, (0,)), (3, (2,))])
        self.assertEqual((list(left), list(right)), ([(5, (0,)), (1, (1,))], [(3, (2,))]))
        both.take(9, (1,))
        self.assertEqual((list(left), list(right)), ([(5, (0,)), (1, (1,))], [(3, (2,))]))
        left.take(8, (2,))
        right.take(8, (0,))
        self.assertEqual(list(both), [(9, (1,)), (5, (0,))])

    def test_drawn(self):
        draw = random.Random(133)
        for _ in range(80):
            drawn = draw_scheme(draw)
            items, others = drawn.items(draw, 6), drawn.items(draw, 6)
            left, right = Board(drawn.scheme, items), Board(drawn.scheme, others)
            told = state(left, drawn.asks), state(right, drawn.asks)
            both, again = left | right, Board(drawn.scheme, items + others)
            self.assertEqual(state(both, drawn.asks), state(again, drawn.asks))
            self.assertEqual(state(right | left, drawn.asks), state(again, drawn.asks))
            for item in drawn.items(draw, 4):
                self.assertEqual(both.take(*item), again.take(*item))
            self.assertEqual((state(left, drawn.asks), state(right, drawn.asks)), told)
