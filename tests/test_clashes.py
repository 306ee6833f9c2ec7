"""Points [67] to [69]."""

import itertools
import random

from fewserve.clashes import clash, judge_clash
from fewserve.errors import BadAsk, BadLot
from fewserve.kinds import Kinds
from fewserve.residues import relation
from fewserve.schemes import Scheme
from fewserve.tables import Table
from tests import slow
from tests.drawn import draw_scheme


def is_clash(table, things, numbers):
    """Return whether the numbers are a clash of the things, by the definition in [67]."""
    if len(numbers) != len(things) or any(number not in range(97) for number in numbers) or not any(numbers):
        return False
    rows = table.rows_of(things)
    return all(sum(c * row[at] for c, row in zip(numbers, rows)) % 97 == 0 for at in range(table.columns))


class Clashes(slow.Case):
    def test_common_things(self):
        scheme = Scheme(Table.plain(4, 3), 1)
        self.assertEqual(clash(scheme, (1,), (1,)), [96, 1])
        self.assertEqual(clash(scheme, (1,), (0, 1)), [96, 0, 1])
        self.assertEqual(clash(scheme, (1,), (1, 3)), [96, 1, 0])
        self.assertIsNone(clash(scheme, (1,), (0, 3)))
        self.assertIsNone(clash(scheme, (1,), ()))

    def test_edges(self):
        self.assertIsNone(clash(Scheme(Table([], 0), 0), (), ()))
        self.assertIs(judge_clash(Scheme(Table([], 0), 0), (), (), []), False)
        self.assertIs(judge_clash(Scheme(Table([], 0), 0), (), (), [1]), False)
        table = Table([[0, 0], [1, 2], [2, 4]], 2)
        self.assertEqual(clash(Scheme(table, 0), (), (0,)), [1])
        self.assertEqual(clash(Scheme(table, 0), (), (1, 2)), [95, 1])
        self.assertEqual(clash(Scheme(table, 1), (0,), ()), [1])
        self.assertEqual(clash(Scheme(table, 1), (0,), (1,)), [1, 0])
        self.assertEqual(clash(Scheme(table, 1), (2,), (0,)), [0, 1])
        self.assertEqual(clash(Scheme(table, 2), (1, 2), ()), [95, 1])
        self.assertIsNone(clash(Scheme(table, 0), (), ()))

    def test_kinds(self):
        kinds = Kinds([Table.plain(3, 2), Table([[1, 1], [2, 2]], 2)], [1, 1])
        self.assertEqual(clash(kinds, (0, 3), (4,)), [0, 95, 1])
        self.assertEqual(clash(kinds, (0, 3), (0, 4)), [96, 0, 1, 0])
        self.assertIsNone(clash(kinds, (0, 3), (1,)))

    def test_drawn(self):
        draw = random.Random(90)
        for _ in range(150):
            drawn = draw_scheme(draw)
            for lot in drawn.lots[:6]:
                for ask in draw.sample(drawn.asks, min(len(drawn.asks), 12)):
                    found = clash(drawn.scheme, lot, ask)
                    self.assertEqual(found is None, drawn.fits(lot, ask))
                    self.assertEqual(found is None, drawn.scheme.fits(lot, ask))
                    self.assertEqual(found, relation(drawn.table.rows_of(lot + ask)))
                    if found is not None:
                        self.assertTrue(is_clash(drawn.table, lot + ask, found))
                        self.assertIs(judge_clash(drawn.scheme, lot, ask, found), True)
                        found.clear()
                        self.assertTrue(clash(drawn.scheme, lot, ask))

    def test_which_error_comes_first(self):
        scheme = Scheme(Table.plain(4, 3), 2)
        for call in (clash, lambda *given: judge_clash(*given, [1, 2, 3])):
            for lot in ((), (0,), (1, 0), (0, 0), (0, 4), (-1, 0), (0, 10 ** 30)):
                self.refuse(BadLot, {"lot": lot}, call, scheme, lot, (0,))
                self.refuse(BadLot, {"lot": lot}, call, scheme, lot, (9,))
            for ask in ((4,), (0, 1), (-1,), (10 ** 30,)):
                self.refuse(BadAsk, {"ask": ask}, call, scheme, (0, 1), ask)

    def test_errors_of_all_schemes(self):
        draw = random.Random(91)
        for _ in range(40):
            drawn = draw_scheme(draw)
            for lot in drawn.bad_lots():
                self.refuse(BadLot, {"lot": lot}, clash, drawn.scheme, lot, (99,))
                self.refuse(BadLot, {"lot": lot}, judge_clash, drawn.scheme, lot, (99,), [])
            for lot in drawn.lots[:2]:
                for ask in drawn.bad_asks():
                    self.refuse(BadAsk, {"ask": ask}, clash, drawn.scheme, lot, ask)
                    self.refuse(BadAsk, {"ask": ask}, judge_clash, drawn.scheme, lot, ask, [0])


class Judged(slow.Case):
    def test_ordinary(self):
        scheme = Scheme(Table.plain(4, 2), 1)
        for number in range(1, 97):
            self.assertIs(judge_clash(scheme, (1,), (1,), [number, 97 - number]), True)
        for numbers in (
            [], [0], [0, 0], [1], [1, 1], [96, 0], [96, 1, 0], [0, 96, 1], [-1, 1], [96, 98], [1, -1], [97, 0], [97, 97],
            [96 + 97 * 10 ** 20, 1], [1, 96, 5],
        ):
            self.assertIs(judge_clash(scheme, (1,), (1,), numbers), False, numbers)
        self.assertIs(judge_clash(scheme, (1,), (2,), [0, 0]), False)
        self.assertIs(judge_clash(scheme, (1,), (), [0]), False)
        self.assertIs(judge_clash(scheme, (1,), (), [1]), False)

    def test_more_than_one_relation(self):
        table = Table([[1, 1], [2, 2], [3, 3]], 2)
        scheme = Scheme(table, 1)
        self.assertEqual(clash(scheme, (0,), (1,)), [95, 1])
        for numbers in itertools.product(range(97), repeat=2):
            told = numbers != (0, 0) and (numbers[0] + 2 * numbers[1]) % 97 == 0
            self.assertIs(judge_clash(scheme, (0,), (1,), list(numbers)), told)

    def test_drawn(self):
        draw = random.Random(92)
        right = wrong = 0
        for _ in range(150):
            drawn = draw_scheme(draw)
            for lot in drawn.lots[:4]:
                for ask in draw.sample(drawn.asks, min(len(drawn.asks), 8)):
                    many = len(lot + ask)
                    numbers = clash(drawn.scheme, lot, ask) or [draw.randint(-1, 97) for _ in range(many)]
                    at = draw.randrange(many + 1)
                    for changed in (
                        numbers, numbers[:at] + numbers[at + 1:], numbers[:at] + [0] + numbers[at:], [0] * many,
                        [2 * number % 97 for number in numbers], [number - 97 for number in numbers],
                        [number + (k == at) for k, number in enumerate(numbers)], numbers[::-1],
                        [number + 97 * (k == at) for k, number in enumerate(numbers)],
                    ):
                        copy = list(changed)
                        told = is_clash(drawn.table, lot + ask, changed)
                        self.assertIs(judge_clash(drawn.scheme, lot, ask, changed), told)
                        self.assertEqual(changed, copy)
                        right += told
                        wrong += not told
        self.assertGreater(right, 300)
        self.assertGreater(wrong, 300)
