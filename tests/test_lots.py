"""Points [6] to [8], and [1] for the lists that are passed and returned."""

import itertools
import random

from fewserve.errors import BadText
from fewserve.lots import (
    MOST_THINGS, MOST_WORTH, all_asks, apart, choices, format_item, format_items, is_lot, joined,
    parse_item, parse_items, rank, ranked, without,
)
from tests import slow


class Tuples(slow.Case):
    def test_limits(self):
        self.assertEqual(MOST_THINGS, 12)
        self.assertEqual(MOST_WORTH, 1000000)

    def test_choices(self):
        self.assertEqual(choices(0, 0), [()])
        self.assertEqual(choices(5, 0), [()])
        self.assertEqual(choices(0, 1), [])
        self.assertEqual(choices(3, 2), [(0, 1), (0, 2), (1, 2)])
        for count in range(14):
            for size in range(14):
                self.assertEqual(choices(count, size), list(itertools.combinations(range(count), size)))

    def test_choices_beyond(self):
        self.assertEqual(choices(3, -1), [])

    def test_all_asks(self):
        self.assertEqual(list(all_asks(3, 2)), [(), (0,), (1,), (2,), (0, 1), (0, 2), (1, 2)])
        self.assertEqual(list(all_asks(2, 5)), [(), (0,), (1,), (0, 1)])
        self.assertEqual(list(all_asks(0, 0)), [()])
        self.assertEqual(list(all_asks(4, 0)), [()])
        self.assertEqual(list(all_asks(4, -1)), [])
        self.assertEqual(list(all_asks(12, 6)), slow.asks(12, 6))

    def test_all_asks_is_a_generator(self):
        asks = all_asks(12, 2)
        self.assertIs(iter(asks), asks)
        self.assertEqual(next(asks), ())
        self.assertEqual(next(asks), (0,))

    def test_is_lot(self):
        for lot in ((), (0,), (11,), (0, 11), (2, 3, 5), tuple(range(12))):
            self.assertIs(is_lot(lot, 12), True)
        for lot in ((12,), (-1,), (1, 1), (2, 1), (0, 12), (-1, 3), (0, 2, 1), (0, 10 ** 30)):
            self.assertIs(is_lot(lot, 12), False)
        self.assertTrue(is_lot((), 0))
        self.assertFalse(is_lot((0,), 0))
        self.assertTrue(is_lot((12,), 13))

    def test_apart_joined_without(self):
        self.assertIs(apart((), ()), True)
        self.assertIs(apart((0, 2), (1, 3)), True)
        self.assertIs(apart((0, 2), (2,)), False)
        self.assertEqual(joined((), ()), ())
        self.assertEqual(joined((1, 4), (0, 2, 9)), (0, 1, 2, 4, 9))
        self.assertEqual(joined((1,), ()), (1,))
        self.assertIsNone(joined((1, 4), (4, 5)))
        self.assertEqual(without((1, 4, 6), (4,)), (1, 6))
        self.assertEqual(without((1, 4), ()), (1, 4))
        self.assertEqual(without((), (1,)), ())
        self.assertEqual(without((1, 4), (5, 4, 1)), ())


class Ranks(slow.Case):
    def test_rank(self):
        self.assertEqual(rank((5, (0, 1))), (-5, (0, 1)))
        self.assertEqual(rank((-(10 ** 40), ())), (10 ** 40, ()))
        self.assertLess(rank((6, (3,))), rank((5, (0,))))
        self.assertLess(rank((5, (0, 9))), rank((5, (1, 2))))
        self.assertLess(rank((5, ())), rank((5, (0,))))

    def test_ranked(self):
        items = [(1, (2,)), (3, (0, 5)), (1, (2,)), (3, (0,)), (-7, ()), (10 ** 30, (4,)), (3, (0, 5))]
        told = [(10 ** 30, (4,)), (3, (0,)), (3, (0, 5)), (1, (2,)), (-7, ())]
        self.assertEqual(ranked(items), told)
        self.assertEqual(ranked([]), [])
        self.assertEqual(ranked([(0, ()), (0, ())]), [(0, ())])

    def test_drawn(self):
        draw = random.Random(3)
        for _ in range(100):
            items = slow.draw_items(draw, draw.randint(0, 30), 5, 2, worths=3)
            copy = list(items)
            found = ranked(items)
            self.assertEqual(found, slow.rank_order(items))
            self.assertEqual(items, copy)
            found.append("changed")
            self.assertEqual(ranked(items), slow.rank_order(items))


VALID = {
    "-5: 0 3 11": (-5, (0, 3, 11)),
    "7:": (7, ()),
    "-1:": (-1, ()),
    "0:": (0, ()),
    "0: 0": (0, (0,)),
    "1000000: 11": (1000000, (11,)),
    "-1000000: 1 2": (-1000000, (1, 2)),
    "10: 0 1 2 3 4 5 6 7 8 9 10 11": (10, tuple(range(12))),
}
SPOILT = [
    "", " ", ":", "7", "7 ", " 7:", "7: ", "7:  1", "7:1", "7 : 1", "7: 1 ", "7: 1  2", "7: 1 2 ", "+7: 1",
    "07: 1", "-0: 1", "--7: 1", "-: 1", "00:", "7: 01", "7: +1", "7: -1", "7: -0", "7: 12", "7: 1 1", "7: 2 1",
    "7: 0 12", "7: 1,2", "7; 1", "7:: 1", "7: 1:", "7: 1: 2", "1000001: 1", "-1000001: 1", "10000000:",
    "x: 1", "7: x", "7.0: 1", "1e3: 1", "1_0: 1", "7: 1_0", "0x7: 1", "7:\n", "7: 1\n", "\n7: 1", "7:\n 1",
    "9" * 5000 + ": 1", "7: " + "9" * 5000, "-" + "9" * 5000 + ":", "7:\t1", "7: 1 a", "a", "none", "7 1 2",
]


class WrittenForms(slow.Case):
    def test_items(self):
        for line, item in VALID.items():
            self.assertEqual(format_item(item), line)
            self.assertEqual(parse_item(line), item)

    def test_great_worths_are_written(self):
        self.assertEqual(format_item((1000001, (0,))), "1000001: 0")
        self.assertEqual(format_item((-(10 ** 64), ())), "-1" + "0" * 64 + ":")
        self.assertEqual(format_item((10 ** 64 - 1, ())), "9" * 64 + ":")
        self.assertEqual(format_item((int("123456789" * 50), (0, 1))), "123456789" * 50 + ": 0 1")
        self.assertEqual(format_item((123 * 10 ** 6000 + 45, (1,))), "123" + "0" * 5998 + "45: 1")

    def test_spoilt_lines(self):
        for line in SPOILT:
            self.refuse(BadText, {"line": line}, parse_item, line)

    def test_drawn_lines_are_valid_exactly_if_they_are_written_forms(self):
        draw = random.Random(4)
        for _ in range(3000):
            line = "".join(draw.choice("0123 :-1") for _ in range(draw.randint(1, 7)))
            try:
                item = parse_item(line)
            except BadText:
                continue
            self.assertEqual(format_item(item), line)

    def test_lists(self):
        self.assertEqual(format_items([]), "")
        self.assertEqual(parse_items(""), [])
        items = list(VALID.values())
        text = "".join(line + "\n" for line in VALID)
        self.assertEqual(format_items(items), text)
        self.assertEqual(parse_items(text), items)
        self.assertEqual(items, list(VALID.values()))

    def test_order_and_equal_items_stay(self):
        items = [(1, (2,)), (5, (0,)), (1, (2,))]
        self.assertEqual(format_items(items), "1: 2\n5: 0\n1: 2\n")
        self.assertEqual(parse_items("1: 2\n5: 0\n1: 2\n"), items)

    def test_texts_with_a_spoilt_line(self):
        for line in SPOILT:
            if "\n" not in line:
                self.refuse(BadText, {"line": line}, parse_items, "7: 1\n" + line + "\nx\n")
        self.refuse(BadText, {"line": ""}, parse_items, "\n")
        self.refuse(BadText, {"line": ""}, parse_items, "7: 1\n\n7: 1\n")

    def test_texts_without_a_newline_at_the_end(self):
        self.refuse(BadText, {"line": "7: 1"}, parse_items, "7: 1")
        self.refuse(BadText, {"line": "7: 2"}, parse_items, "7: 1\n7: 2")
        self.refuse(BadText, {"line": "x"}, parse_items, "wrong\n7: 2\nx")
        self.refuse(BadText, {"line": " "}, parse_items, "wrong\n ")

    def test_returned_list_is_new(self):
        parse_items("7: 1\n").append("changed")
        self.assertEqual(parse_items("7: 1\n"), [(7, (1,))])
