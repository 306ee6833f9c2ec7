"""Points [98] to [101]."""

import random

from fewserve.errors import BadLot, BadText, ServeError
from fewserve.logs import compacted, format_line, parse_line, recover, whole_lines, whole_part
from fewserve.roots import Roots
from fewserve.schemes import Scheme
from fewserve.tables import Table
from tests import slow
from tests.drawn import draw_scheme

BAD_LINES = [
    ";", "5: 0;", ";5: 0", "5: 0;;5: 1", "5: 0; 5: 1", "5: 0 ;5: 1", " 5: 0", "5: 0 ", "5:0", "5", "5: 1 0", "5: 0 0",
    "5: 12", "5: -1", "05: 0", "+5: 0", "-0: 0", "5: 00", "1000001:", "-1000001: 3", "5: 0,5: 1", "x", "5: 0\n", "\n",
    "5:  0", "5: 0;x:", "5: 0;5: 1;7", " ", "5 : 0", "9999999999:", ":", ": 0", "--5:", "5:;:",
]


class Lines(slow.Case):
    def test_example(self):
        items = [(5, (0, 1)), (-2, ())]
        self.assertEqual(format_line(items), "5: 0 1;-2:")
        self.assertEqual(parse_line("5: 0 1;-2:"), items)
        self.assertEqual(items, [(5, (0, 1)), (-2, ())])

    def test_edges(self):
        self.assertEqual((format_line([]), parse_line("")), ("", []))
        for line, items in (
            ("0:", [(0, ())]),
            ("1000000: 11", [(1000000, (11,))]),
            ("-1000000: 0 11;-1000000: 0 11", [(-1000000, (0, 11))] * 2),
            ("1:;1:;3: 10", [(1, ()), (1, ()), (3, (10,))]),
        ):
            self.assertEqual(parse_line(line), items)
            self.assertEqual(format_line(items), line)

    def test_wrong(self):
        for line in BAD_LINES:
            self.refuse(BadText, {"line": line}, parse_line, line)
        self.assertEqual(BadText.__bases__, (ServeError,))

    def test_drawn(self):
        draw = random.Random(160)
        for _ in range(200):
            items = []
            for _ in range(draw.randint(0, 5)):
                lot = tuple(sorted(draw.sample(range(12), draw.randint(0, 12))))
                items.append((draw.randint(-1000000, 1000000), lot))
            line = format_line(items)
            self.assertEqual(line, ";".join(f"{w}:" + "".join(f" {t}" for t in lot) for w, lot in items))
            self.assertEqual(parse_line(line), items)

    def test_returned_list_is_new(self):
        parse_line("5: 0").clear()
        self.assertEqual(parse_line("5: 0"), [(5, (0,))])


class Parts(slow.Case):
    def test_ordinary(self):
        for text, part, lines in (
            ("", "", []),
            ("abc", "", []),
            ("\n", "\n", [""]),
            ("\n\n", "\n\n", ["", ""]),
            ("5: 0\n", "5: 0\n", ["5: 0"]),
            ("5: 0\nx", "5: 0\n", ["5: 0"]),
            ("5: 0\n\n7: 1;", "5: 0\n\n", ["5: 0", ""]),
            ("a\nb\n c \n~", "a\nb\n c \n", ["a", "b", " c "]),
        ):
            self.assertEqual(whole_part(text), part)
            self.assertEqual(list(whole_lines(text)), lines)
            self.assertEqual("".join(line + "\n" for line in lines), part)

    def test_one_line_after_the_other(self):
        lines = whole_lines("a\nb\nc")
        self.assertEqual((next(lines), next(lines), next(lines, None)), ("a", "b", None))


class Recovering(slow.Case):
    def setUp(self):
        self.scheme = Scheme(Table.plain(3, 2), 1)

    def test_ordinary(self):
        log = "1: 1\n3: 2;5: 0\n\n5: 0\n"
        self.assertEqual(recover(self.scheme, log), [(5, (0,)), (3, (2,))])
        self.assertEqual(compacted(self.scheme, log), "5: 0;3: 2\n")

    def test_edges(self):
        for log in ("", "\n", "\n\n", "5: 0", "x"):
            self.assertEqual(recover(self.scheme, log), [])
            self.assertEqual(compacted(self.scheme, log), "\n")
        empty = Scheme(Table([], 0), 0)
        self.assertEqual(recover(empty, "3:\n5:;4:\n9:"), [(5, ())])
        self.assertEqual(compacted(empty, "3:\n5:;4:\n9:"), "5:\n")

    def test_torn_characters(self):
        for torn in ("", "7: 1", "7: 9", "x", ";", "7: 1;", "9999999999", "7: 1 2", " "):
            self.assertEqual(recover(self.scheme, "1: 1\n" + torn), [(1, (1,))])
            self.assertEqual(compacted(self.scheme, "1: 1\n" + torn), "1: 1\n")

    def test_wrong_texts(self):
        for line in BAD_LINES:
            if "\n" in line:
                continue
            log = "1: 1\n1: 5\n" + line + "\n9;\n1: 1\n"
            self.refuse(BadText, {"line": line}, recover, self.scheme, log)
            self.refuse(BadText, {"line": line}, compacted, self.scheme, log)

    def test_wrong_lots(self):
        log = "1: 1\n1: 2;2: 0 1\n3: 5\n4:\n"
        self.refuse(BadLot, {"lot": (0, 1)}, recover, self.scheme, log)
        self.refuse(BadLot, {"lot": (0, 1)}, compacted, self.scheme, log)
        self.refuse(BadLot, {"lot": (5,)}, recover, self.scheme, "9: 5\n10:\n")
        self.refuse(BadLot, {"lot": ()}, recover, self.scheme, "10:;9: 5\n")
        self.refuse(BadText, {"line": "x"}, recover, self.scheme, "9: 5\nx\n")
        self.refuse(BadLot, {"lot": (3,)}, recover, Roots([1, 2, 3], 1, 1), "9: 2\n9: 3\nx")

    def test_drawn(self):
        draw = random.Random(161)
        for _ in range(80):
            drawn = draw_scheme(draw)
            items = drawn.items(draw, 12)
            more = drawn.items(draw, 4)
            log, rest = "", list(items)
            while rest:
                many = draw.randint(0, 3)
                log += format_line(rest[:many]) + "\n"
                rest = rest[many:]
            told = drawn.kept(items)
            self.assertEqual(recover(drawn.scheme, log), told)
            self.assertEqual(recover(drawn.scheme, log + "5: 0"), told)
            self.assertEqual(compacted(drawn.scheme, log + "x"), format_line(told) + "\n")
            lines = format_line(more[:1]) + "\n" + format_line(more[1:]) + "\n"
            after = drawn.kept(items + more)
            self.assertEqual(recover(drawn.scheme, whole_part(log + "7") + lines), after)
            self.assertEqual(recover(drawn.scheme, compacted(drawn.scheme, log + "7") + lines), after)

    def test_great_log(self):
        draw = random.Random(162)
        scheme = Scheme(Table.plain(12, 6), 3)
        items = slow.draw_items(draw, 2000, 12, 3, 1000)
        log = "".join(format_line(items[at:at + 20]) + "\n" for at in range(0, 2000, 20))
        few = recover(scheme, log)
        self.assertLessEqual(len(few), 20)
        for ask in slow.asks(12, 2)[::7] + slow.asks(12, 3)[::17]:
            self.assertEqual([i for i in slow.rank_order(few) if not set(i[1]) & set(ask)][:1],
                             sorted([i for i in items if not set(i[1]) & set(ask)], key=lambda i: (-i[0], i[1]))[:1])
