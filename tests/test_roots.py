"""Points [40] to [42], and [16] to [18] for schemes of roots."""

import itertools
import random

from fewserve.errors import BadAsk, BadLot, BadSize, BadTable
from fewserve.kinds import Kinds
from fewserve.roots import Roots, exponents, root_polynomial
from fewserve.schemes import Scheme, first_fit, kept_list
from fewserve.tables import Table
from tests import slow
from tests.drawn import draw_roots


def slow_row(numbers, size, spare):
    """Return a lot's row by listing the unlike rearrangements of each tuple of exponents."""
    found = []
    for chosen in itertools.combinations_with_replacement(range(spare + 1), size):
        total = 0
        for order in set(itertools.permutations(chosen)):
            product = 1
            for number, exponent in zip(numbers, order):
                product *= number ** exponent
            total += product
        found.append(total % 97)
    return found


def product_of_differences(numbers, others):
    product = 1
    for number in numbers:
        for other in others:
            product = product * (number - other) % 97
    return product % 97


class Exponents(slow.Case):
    def test_examples(self):
        self.assertEqual(exponents(2, 1), [(0, 0), (0, 1), (1, 1)])
        self.assertEqual(exponents(1, 3), [(0,), (1,), (2,), (3,)])

    def test_edges(self):
        for most in range(7):
            self.assertEqual(exponents(0, most), [()])
            self.assertEqual(exponents(most, 0), [(0,) * most])

    def test_all(self):
        for size in range(7):
            for most in range(7):
                told = list(itertools.combinations_with_replacement(range(most + 1), size))
                self.assertEqual(exponents(size, most), told)

    def test_returned_list_is_new(self):
        exponents(2, 1).clear()
        exponents(0, 1).append((9,))
        self.assertEqual(exponents(2, 1), [(0, 0), (0, 1), (1, 1)])
        self.assertEqual(exponents(0, 1), [()])


class Polynomials(slow.Case):
    def test_examples(self):
        self.assertEqual(root_polynomial([3]), [94, 1])
        self.assertEqual(root_polynomial([]), [1])

    def test_edges(self):
        self.assertEqual(root_polynomial([0]), [0, 1])
        self.assertEqual(root_polynomial([97, -97]), [0, 0, 1])
        self.assertEqual(root_polynomial([1, -1]), [96, 0, 1])
        self.assertEqual(root_polynomial([2, 2]), [4, 93, 1])
        self.assertEqual(root_polynomial([10 ** 30]), [-(10 ** 30) % 97, 1])

    def test_drawn(self):
        draw = random.Random(40)
        for many in range(13):
            numbers = [draw.randint(-(10 ** 15), 10 ** 15) for _ in range(many)]
            copy = list(numbers)
            parts = root_polynomial(numbers)
            self.assertEqual(numbers, copy)
            self.assertEqual((len(parts), parts[-1]), (many + 1, 1))
            self.assertTrue(all(0 <= part < 97 for part in parts))
            for x in range(97):
                value = sum(part * x ** power for power, part in enumerate(parts)) % 97
                self.assertEqual(value, product_of_differences([x], numbers))
            parts.clear()
            self.assertEqual(len(root_polynomial(numbers)), many + 1)


class Schemes(slow.Case):
    def test_attributes(self):
        roots = Roots([2, 100, -1], 2, 1)
        self.assertIsInstance(roots, Scheme)
        self.assertEqual((roots.size, roots.spare, roots.width), (2, 1, 3))
        self.assertEqual(roots.numbers, [2, 3, 96])
        self.assertEqual((roots.table.things, roots.table.columns), (3, 3))
        self.assertEqual(roots.table.show(), Table.points([2, 100, -1], 3).show())

    def test_widths(self):
        for size in range(7):
            for spare in range(7 - size):
                roots = Roots(list(range(12)), size, spare)
                plain = Scheme(Table.points(list(range(12)), size + spare), size)
                told = (plain.size, plain.spare, plain.width)
                self.assertEqual((roots.size, roots.spare, roots.width), told)
                self.assertEqual(len(roots.row(tuple(range(size)))), plain.width)
                self.assertEqual(len(roots.corow(tuple(range(spare)))), plain.width)

    def test_edges(self):
        none = Roots([], 0, 0)
        self.assertEqual((none.size, none.spare, none.width, none.numbers), (0, 0, 1, []))
        self.assertEqual((none.row(()), none.corow(()), none.pairing((), ())), ([1], [1], 1))
        self.assertTrue(none.fits((), ()))
        empty = Roots([], 2, 1)
        self.assertEqual((empty.table.things, empty.width), (0, 3))
        self.assertEqual(kept_list(empty, []), [])
        self.assertIsNone(first_fit(empty, [], ()))

    def test_wrong(self):
        for size, spare in ((-1, 2), (2, -1), (-1, -1), (-5, 10), (10, -5), (-(10 ** 30), 0), (10 ** 30, -1)):
            for numbers in ([1, 2, 3], [], [1, 98], list(range(13))):
                self.refuse(BadSize, {"size": size}, Roots, numbers, size, spare)
        for numbers, size, spare in (
            ([1, 98], 1, 1), ([1, 98], 0, 0), ([0, 5, 10 ** 12, 97], 1, 1), ([3, 3], 6, 0), ([1, 2], 4, 3), ([], 0, 7),
            ([], 7, 0), (list(range(13)), 1, 1), (list(range(13)), 0, 0), ([], 10 ** 30, 0), ([1], 0, 10 ** 30),
        ):
            self.refuse(BadTable, {}, Roots, numbers, size, spare)

    def test_list_that_is_passed(self):
        numbers = [2, 5, 3]
        roots = Roots(numbers, 2, 1)
        self.assertEqual(numbers, [2, 5, 3])
        numbers[0] = 9
        numbers.append(40)
        self.assertEqual(roots.numbers, [2, 5, 3])
        self.assertEqual((roots.row((0, 1)), roots.corow((2,))), ([1, 7, 10], [9, 94, 1]))
        self.refuse(BadLot, {"lot": (0, 3)}, roots.row, (0, 3))

    def test_lots_and_asks(self):
        roots = Roots([2, 5, 3, 0], 2, 2)
        for lot in ((), (0,), (0, 1, 2), (1, 0), (1, 1), (0, 4), (-1, 2), (2, 10 ** 30)):
            for call in (roots.check, roots.row):
                self.refuse(BadLot, {"lot": lot}, call, lot)
            for call in (roots.fits, roots.pairing):
                self.refuse(BadLot, {"lot": lot}, call, lot, (9,))
            self.refuse(BadLot, {"lot": lot}, kept_list, roots, [(9, (0, 1)), (1, lot), (2, ())])
            self.refuse(BadLot, {"lot": lot}, first_fit, roots, [(9, (0, 1)), (1, lot)], (0,))
        for ask in ((0, 1, 2), (1, 0), (1, 1), (4,), (-1,), (0, 10 ** 30)):
            for call in (roots.check_ask, roots.corow):
                self.refuse(BadAsk, {"ask": ask}, call, ask)
            for call in (roots.fits, roots.pairing):
                self.refuse(BadAsk, {"ask": ask}, call, (0, 1), ask)
            self.refuse(BadAsk, {"ask": ask}, first_fit, roots, [(1, (7,))], ask)
        for ask in ((), (0,), (3,)):
            self.assertIsNone(roots.check_ask(ask))
            self.refuse(BadAsk, {"ask": ask}, roots.corow, ask)
            self.refuse(BadAsk, {"ask": ask}, roots.pairing, (0, 1), ask)
        self.assertIsNone(roots.check((0, 3)))
        self.assertEqual(roots.row((0, 3)), roots.row((0, 3)))


class Rows(slow.Case):
    def test_example(self):
        roots = Roots([2, 5, 3], 2, 1)
        self.assertEqual(roots.row((0, 1)), [1, 7, 10])
        self.assertEqual(roots.corow((2,)), [9, 94, 1])
        self.assertEqual(roots.pairing((0, 1), (2,)), 95)

    def test_edges(self):
        nothing = Roots([4, 0, 7], 0, 3)
        self.assertEqual(nothing.row(()), [1])
        self.assertEqual((nothing.corow((0, 1, 2)), nothing.pairing((), (0, 1, 2))), ([1], 1))
        whole = Roots([4, 97, 7], 3, 0)
        self.assertEqual(whole.row((0, 1, 2)), [1])
        self.assertEqual((whole.corow(()), whole.pairing((0, 1, 2), ())), ([1], 1))
        # The number 0 to the power 0 is 1.
        zero = Roots([97, 5], 1, 1)
        self.assertEqual((zero.row((0,)), zero.corow((0,)), zero.corow((1,))), ([1, 0], [0, 1], [92, 1]))
        self.assertEqual(zero.pairing((0,), (1,)), 92)
        self.assertEqual(Roots([0, 1, 2, 3], 2, 2).row((0, 1)), [1, 1, 1, 0, 0, 0])
        great = Roots([10 ** 15, -(10 ** 15), 0], 1, 2)
        number = 10 ** 15 % 97
        self.assertEqual(great.row((0,)), [1, number, number * number % 97])
        self.assertEqual(great.numbers, [number, 97 - number, 0])

    def test_drawn(self):
        draw = random.Random(41)
        for _ in range(60):
            drawn = draw_roots(draw)
            roots, numbers = drawn.scheme, drawn.scheme.numbers
            chosen_powers = list(itertools.combinations_with_replacement(range(roots.spare + 1), roots.size))
            fulls = [ask for ask in drawn.asks if len(ask) == roots.spare]
            for ask in fulls:
                parts = root_polynomial([numbers[thing] for thing in ask])
                told = []
                for chosen in chosen_powers:
                    product = 1
                    for power in chosen:
                        product *= parts[power]
                    told.append(product % 97)
                self.assertEqual(roots.corow(ask), told)
            for lot in drawn.lots:
                own = [numbers[thing] for thing in lot]
                row = roots.row(lot)
                self.assertEqual(row, slow_row(own, roots.size, roots.spare))
                for ask in fulls:
                    told = product_of_differences(own, [numbers[thing] for thing in ask])
                    self.assertEqual(roots.pairing(lot, ask), told)
                    self.assertEqual(sum(a * b for a, b in zip(row, roots.corow(ask))) % 97, told)
                    self.assertEqual(roots.fits(lot, ask), told != 0)

    def test_six_columns(self):
        roots = Roots([3, 0, 50, -4, 10 ** 20, 11, 60, 61], 3, 3)
        numbers = roots.numbers
        for lot, ask in (((0, 1, 2), (3, 4, 5)), ((1, 4, 7), (0, 2, 6)), ((1, 4, 7), (0, 4, 6))):
            told = product_of_differences([numbers[k] for k in lot], [numbers[k] for k in ask])
            self.assertEqual(roots.row(lot), slow_row([numbers[k] for k in lot], 3, 3))
            self.assertEqual(roots.pairing(lot, ask), told)

    def test_returned_rows_are_new(self):
        roots = Roots([2, 5, 3], 2, 1)
        roots.row((0, 1)).clear()
        roots.corow((2,))[0] = 50
        self.assertEqual((roots.row((0, 1)), roots.corow((2,))), ([1, 7, 10], [9, 94, 1]))

    def test_errors_change_nothing(self):
        roots = Roots([2, 5, 3], 2, 1)
        self.refuse(BadLot, {"lot": (0,)}, roots.row, (0,))
        self.refuse(BadAsk, {"ask": ()}, roots.corow, ())
        self.assertEqual((roots.row((0, 1)), roots.corow((2,))), ([1, 7, 10], [9, 94, 1]))
        self.assertEqual((roots.size, roots.spare, roots.width, roots.numbers), (2, 1, 3, [2, 5, 3]))


class Lists(slow.Case):
    def test_fits(self):
        draw = random.Random(42)
        for _ in range(40):
            drawn = draw_roots(draw)
            for lot in drawn.lots:
                for ask in drawn.asks:
                    self.assertEqual(drawn.scheme.fits(lot, ask), not set(lot) & set(ask))

    def test_drawn(self):
        draw = random.Random(43)
        for _ in range(80):
            drawn = draw_roots(draw)
            roots = drawn.scheme
            items = drawn.items(draw)
            copy = list(items)
            kept = kept_list(roots, items)
            plain = Scheme(Table.points(roots.numbers, roots.size + roots.spare), roots.size)
            self.assertEqual(kept, kept_list(plain, items))
            self.assertEqual(kept, drawn.kept(items))
            self.assertLessEqual(len(kept), roots.width)
            for ask in drawn.asks:
                told = drawn.first(items, ask)
                self.assertEqual(first_fit(roots, items, ask), told)
                self.assertEqual(first_fit(roots, kept, ask), told)
            self.assertEqual(items, copy)

    def test_kinds_of_tables_of_points(self):
        # With one kind alone, all three schemes keep the same.
        draw = random.Random(44)
        for _ in range(30):
            drawn = draw_roots(draw)
            items = drawn.items(draw)
            kinds = Kinds([drawn.table], [drawn.scheme.size])
            self.assertEqual(kept_list(drawn.scheme, items), kept_list(kinds, items))
