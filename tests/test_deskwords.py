"""Points [137] and [138]."""

import random

from fewserve.accounts import Account
from fewserve.asking import answer
from fewserve.deskwords import answer_lines, format_paper, parse_paper, read_answer
from fewserve.errors import BadText, ServeError
from tests import slow
from tests.drawn import draw_scheme

BAD_PAPERS = [
    "", " ", "00", "0 ", " 0", "-0", "0 + 0", "0 + 3*1: 0", "3*1: 0 + 0", "0*1: 0", "97*1: 0", "-1*1: 0", "03*1: 0", "+3*1: 0",
    "3 * 1: 0", "3*1: 0+4*1: 1", "3*1: 0 +4*1: 1", "3*1: 0+ 4*1: 1", "3*1: 0 + ", " + 3*1: 0", "3*1: 0 + + 4*1: 1",
    "3*1: 0  + 4*1: 1", "3*1: 0 +  4*1: 1", "3*1:0", "3*1: 1 0", "3*1: 12", "3*1000001:", "3*-1000001:", "3", "3*", "*1: 0",
    "1: 0", "3*3*1: 0", "100*1: 0", "3*01: 0", "3*1: 0;", "3*1: 0 + 97*1: 1", "x", "3*1: 0 + 1: 1", "1000000000000*1: 0",
    "3*1: 0 of 1: 0", "3*1: 0\n",
]


def draw_item(draw):
    lot = tuple(sorted(draw.sample(range(12), draw.randint(0, 12))))
    return (draw.choice([draw.randint(-9, 9), draw.randint(-1000000, 1000000)]), lot)


def draw_paper(draw):
    return [(draw.randint(1, 96), draw_item(draw)) for _ in range(draw.randint(0, 4))]


class Papers(slow.Case):
    def test_example(self):
        paper = [(3, (12, (0, 1))), (96, (7, (2, 4)))]
        self.assertEqual(format_paper(paper), "3*12: 0 1 + 96*7: 2 4")
        self.assertEqual(parse_paper("3*12: 0 1 + 96*7: 2 4"), paper)
        self.assertEqual(paper, [(3, (12, (0, 1))), (96, (7, (2, 4)))])

    def test_edges(self):
        self.assertEqual((format_paper([]), parse_paper("0")), ("0", []))
        for text, paper in (
            ("1*0:", [(1, (0, ()))]),
            ("96*-1000000: 11", [(96, (-1000000, (11,)))]),
            ("10*1000000: 0 + 10*1000000: 0", [(10, (1000000, (0,)))] * 2),
            # Nothing else is checked: the entries need not be in rank order nor have lots of one size.
            ("2*1: + 3*5: 0 1 2 + 2*1:", [(2, (1, ())), (3, (5, (0, 1, 2))), (2, (1, ()))]),
        ):
            self.assertEqual(parse_paper(text), paper)
            self.assertEqual(format_paper(paper), text)

    def test_wrong(self):
        for text in BAD_PAPERS:
            self.refuse(BadText, {"line": text}, parse_paper, text)
        self.assertEqual(BadText.__bases__, (ServeError,))

    def test_drawn(self):
        draw = random.Random(240)
        for _ in range(200):
            paper = draw_paper(draw)
            text = format_paper(paper)
            told = [f"{part}*{worth}:" + "".join(f" {thing}" for thing in lot) for part, (worth, lot) in paper]
            self.assertEqual(text, " + ".join(told) or "0")
            self.assertEqual(parse_paper(text), paper)
            # One sign less or more writes another paper, or none.
            at = draw.randrange(len(text))
            for spoilt in (text[:at] + text[at + 1:], text[:at] + draw.choice(" 0197*:+-") + text[at:]):
                try:
                    self.assertEqual(format_paper(parse_paper(spoilt)), spoilt)
                except BadText as error:
                    self.assertEqual(error.line, spoilt)

    def test_returned_list_is_new(self):
        parse_paper("1*5: 0").clear()
        self.assertEqual(parse_paper("1*5: 0"), [(1, (5, (0,)))])


TOLD = (
    (3, (2,)),
    [((5, (0,)), [96, 0, 1]), ((4, ()), [1])],
    [((4, (1,)), [(49, (5, (0,))), (1, (4, ()))]), ((4, (3,)), [])],
)
LINES = ["answer 3: 2", "clash 96 0 1 of 5: 0", "clash 1 of 4:", "paper 49*5: 0 + 1*4: of 4: 1", "paper 0 of 4: 3"]


class Answers(slow.Case):
    def test_ordinary(self):
        self.assertEqual(answer_lines(TOLD), LINES)
        self.assertEqual(read_answer(LINES), TOLD)
        self.assertEqual(len(LINES), 5)

    def test_edges(self):
        for told, lines in (
            ((None, [], []), ["answer none"]),
            (((-1000000, ()), [], []), ["answer -1000000:"]),
            ((None, [((1, (0,)), [0, 0])], []), ["answer none", "clash 0 0 of 1: 0"]),
            (((1, (0, 1)), [], [((9, (2, 3)), [])]), ["answer 1: 0 1", "paper 0 of 9: 2 3"]),
        ):
            self.assertEqual(answer_lines(told), lines)
            self.assertEqual(read_answer(lines), told)

    def test_wrong_first_lines(self):
        self.refuse(BadText, {"line": ""}, read_answer, [])
        for line in (
            "", "answer", "answer ", "answer None", "none", "answer none ", "answer  none", "answer 5:0", "answer 5: 1 0",
            "answer 1000001:", "answer 5: 12", "Answer none", "answer 5: 0;", "answer none none", "answer 5: 0\n",
            LINES[1], LINES[3], " answer none",
        ):
            self.refuse(BadText, {"line": line}, read_answer, [line])
            self.refuse(BadText, {"line": line}, read_answer, [line, "x"])

    def test_wrong_clash_lines(self):
        for line in (
            "clash", "clash ", "clash of 5: 0", "clash  of 5: 0", "clash 1 of", "clash 1 of ", "clash 97 of 5: 0", "clash -1 of 5: 0",
            "clash 01 of 5: 0", "clash +1 of 5: 0", "clash 1  2 of 5: 0", "clash 1 2  of 5: 0", "clash  1 of 5: 0",
            "clash 1 of  5: 0", "clash 1 of 5:0", "clash 1 of 5: 12", "clash 1 of 1000001:", "clash 1 of 5: 0 of 5: 0",
            "clash 1 of none", "clash 1,2 of 5: 0", "clash 1 5: 0", "clash 100 of 5: 0", "clash 99999999999999999999 of 5: 0",
            "Clash 1 of 5: 0", " clash 1 of 5: 0", "clash 1 of 5: 0 ", "clash x of 5: 0", "clash -0 of 5: 0", "clash 1OF5: 0",
        ):
            self.refuse(BadText, {"line": line}, read_answer, ["answer none", line])
            self.refuse(BadText, {"line": line}, read_answer, ["answer none", LINES[1], line, "x"])

    def test_wrong_paper_lines(self):
        lines = ["paper", "paper ", "paper of 5: 0", "paper  of 5: 0", "paper 0 of ", "paper 0 of none", "paper 0 of 5:0",
                 "paper 0 of 5: 0 ", "paper 0 5: 0", "paper 0 of 5: 0 of 5: 0", "paper  0 of 5: 0", "paper 0  of 5: 0", "x", "",
                 "answer none", "paper 0 of 1000001:"]
        for line in lines + [f"paper {text} of 5: 0" for text in BAD_PAPERS]:
            self.refuse(BadText, {"line": line}, read_answer, ["answer none", line])
            self.refuse(BadText, {"line": line}, read_answer, ["answer none", LINES[1], LINES[4], line, "y"])

    def test_order(self):
        self.refuse(BadText, {"line": LINES[1]}, read_answer, [LINES[0], LINES[4], LINES[1]])
        self.refuse(BadText, {"line": LINES[2]}, read_answer, [LINES[0], LINES[1], LINES[3], LINES[2], LINES[4]])
        self.refuse(BadText, {"line": LINES[0]}, read_answer, [LINES[0], LINES[0]])
        self.refuse(BadText, {"line": LINES[1]}, read_answer, [LINES[1], LINES[0]])
        self.refuse(BadText, {"line": "x"}, read_answer, [LINES[0], "x", "y"])

    def test_drawn(self):
        draw = random.Random(241)
        for _ in range(150):
            told = (
                draw.choice([None, draw_item(draw)]),
                [(draw_item(draw), [draw.randint(0, 96) for _ in range(draw.randint(1, 6))]) for _ in range(draw.randint(0, 3))],
                [(draw_item(draw), draw_paper(draw)) for _ in range(draw.randint(0, 3))],
            )
            lines = answer_lines(told)
            self.assertEqual(len(lines), 1 + len(told[1]) + len(told[2]))
            before = list(lines)
            found = read_answer(lines)
            self.assertEqual(found, told)
            self.assertEqual(lines, before)
            found[1].clear()
            found[2].clear()
            self.assertEqual(answer_lines(told), before)

    def test_true_answers(self):
        draw = random.Random(242)
        clashes = 0
        for _ in range(150):
            drawn = draw_scheme(draw)
            account = Account(drawn.scheme)
            for worth, lot in drawn.items(draw):
                account.take(worth, lot)
            for ask in drawn.asks[:20]:
                told = answer(account, ask)
                # A lot and an ask without things always fit, so every clash has a number.
                self.assertEqual(read_answer(answer_lines(told)), told)
                clashes += len(told[1])
        self.assertGreater(clashes, 100)
