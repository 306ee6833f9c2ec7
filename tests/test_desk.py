"""Points [139] to [145]."""

import random

from fewserve.accounts import Account
from fewserve.asking import answer, judge_answer
from fewserve.desk import Desk
from fewserve.deskwords import answer_lines, format_paper
from fewserve.keeping import Keeper
from fewserve.kinds import Kinds
from fewserve.logs import recover
from fewserve.lots import format_item
from fewserve.roots import Roots
from fewserve.schemes import Scheme
from fewserve.tables import Table
from tests import slow
from tests.drawn import draw_scheme


def small():
    return Scheme(Table.plain(3, 2), 1)


def filled():
    """Return a desk that has taken three items."""
    desk = Desk(small())
    for line in ("take 5: 0", "take 1: 1", "take 3: 2"):
        desk.run(line)
    return desk


def state(desk):
    lines = ["list", "least", "ask", "ask 0", "why 1", "paper 1: 1", "paper 5: 0"]
    return [desk.run(line) for line in lines], desk.journal


def told_list(items):
    return "; ".join([f"{len(items)} items"] + [format_item(item) for item in items])


def words(things):
    return "".join(f" {thing}" for thing in things)


class Lines(slow.Case):
    def test_a_new_desk(self):
        scheme = small()
        desk = Desk(scheme)
        self.assertIs(desk.scheme, scheme)
        self.assertEqual(desk.journal, "")
        for line, told in (
            ("list", "0 items"), ("least", "0 items"), ("ask", "none"), ("ask 1", "none"), ("why", "answer none"),
            ("why 2", "answer none"), ("judge ; answer none", "right"), ("judge 0; answer 5: 1", "wrong"),
            ("paper 5: 0", "error UnknownItem"),
        ):
            self.assertEqual(desk.run(line), told)
        self.assertEqual(desk.journal, "")

    def test_take(self):
        desk = Desk(small())
        for line, told in (
            ("take 5: 0", "kept"),
            ("take 1: 1", "kept"),
            ("take 3: 2", "traded 1: 1 = 49*5: 0 + 49*3: 2"),
            ("take 5: 0", "left = 1*5: 0"),
            ("take 1: 1", "left = 49*5: 0 + 49*3: 2"),
            ("take -1000000: 2", "left = 1*3: 2"),
            ("take 1000000: 2", "traded 3: 2 = 1*1000000: 2"),
        ):
            self.assertEqual(desk.run(line), told)
        zero = Desk(Scheme(Table([[0], [1]], 1), 1))
        self.assertEqual(zero.run("take 9: 0"), "left = 0")
        empty = Desk(Scheme(Table([], 0), 0))
        self.assertEqual([empty.run("take 5:"), empty.run("take 7:")], ["kept", "traded 5: = 1*7:"])
        self.assertEqual([empty.run("ask"), empty.run("list")], ["7:", "1 items; 7:"])

    def test_asking(self):
        desk = filled()
        for line, told in (
            ("ask", "5: 0"), ("ask 0", "3: 2"), ("ask 1", "5: 0"), ("ask 2", "5: 0"),
            ("why", "answer 5: 0"), ("why 0", "answer 3: 2; clash 96 1 of 5: 0"),
            ("list", "2 items; 5: 0; 3: 2"), ("least", "2 items; 5: 0; 3: 2"),
            ("paper 1: 1", "49*5: 0 + 49*3: 2"), ("paper 5: 0", "1*5: 0"), ("paper 3: 2", "1*3: 2"),
        ):
            self.assertEqual(desk.run(line), told)
        self.assertEqual(desk.run("take 2: 0"), "left = 1*5: 0")
        self.assertEqual(desk.run("take 4: 0"), "left = 1*5: 0")
        self.assertEqual(desk.run("why 0"), "answer 3: 2; clash 96 1 of 5: 0; paper 1*5: 0 of 4: 0")
        self.assertEqual(desk.run("judge 0; answer 3: 2; clash 96 1 of 5: 0; paper 1*5: 0 of 4: 0"), "right")
        self.assertEqual(desk.run("judge 0; answer 3: 2; clash 96 1 of 5: 0"), "wrong")

    def test_the_least_list_may_be_shorter(self):
        desk = Desk(Scheme(Table.plain(6, 3), 2))
        for line in ("take 7: 4 5", "take 9: 0 1", "take 8: 2 3"):
            self.assertEqual(desk.run(line), "kept")
        self.assertEqual(desk.run("list"), "3 items; 9: 0 1; 8: 2 3; 7: 4 5")
        self.assertEqual(desk.run("least"), "2 items; 9: 0 1; 8: 2 3")

    def test_judge(self):
        desk = filled()
        for line, told in (
            ("judge ; answer 5: 0", "right"),
            ("judge ; answer none", "wrong"),
            ("judge ; answer 3: 2", "wrong"),
            ("judge ; answer 3: 2; clash 1 of 5: 0", "wrong"),
            ("judge 0; answer 3: 2; clash 96 1 of 5: 0", "right"),
            ("judge 0; answer 3: 2; clash 1 96 of 5: 0", "right"),
            ("judge 0; answer 3: 2; clash 1 1 of 5: 0", "wrong"),
            ("judge 0; answer 3: 2; clash 0 0 of 5: 0", "wrong"),
            ("judge 0; answer 5: 0", "wrong"),
            ("judge 1; answer 5: 0", "right"),
            ("judge 1; answer 5: 0; clash 1 1 of 9: 11", "wrong"),
            ("judge 1; answer 5: 0; paper 0 of 9: 10 11", "wrong"),
            ("judge 1; answer 9: 9", "wrong"),
        ):
            self.assertEqual(desk.run(line), told)

    def test_kinds_and_roots(self):
        kinds = Desk(Kinds([Table.plain(2, 1), Table.plain(2, 2)], [1, 1]))
        self.assertEqual([kinds.run("take 5: 0 2"), kinds.run("take 5: 2"), kinds.run("take 5: 0 1")],
                         ["kept", "error BadLot", "error BadLot"])
        self.assertEqual([kinds.run("ask 3"), kinds.run("ask 0"), kinds.run("ask 2")], ["5: 0 2", "error BadAsk", "none"])
        roots = Desk(Roots([2, 5, 3], 2, 1))
        self.assertEqual([roots.run("take 7: 0 1"), roots.run("ask 2"), roots.run("ask 1")], ["kept", "7: 0 1", "none"])
        self.assertEqual(roots.run("why 1"), "answer none; clash 0 96 1 of 7: 0 1")


class Refusing(slow.Case):
    def check(self, lines, told):
        """Check that the lines are answered with the error and change nothing."""
        for desk in (filled(), Desk(small())):
            before = state(desk)
            for line in lines:
                self.assertEqual(desk.run(line), told, line)
                self.assertEqual(state(desk), before)

    def test_other_commands(self):
        self.check([
            "", " ", "x", "Take 5: 0", "TAKE 5: 0", "take", "take ", "ask ", "why ", "judge", "judge ", "paper", "paper ", "list ",
            "least ", "list 1", "least 1", "list  ", " list", " take 5: 0", "taken 5: 0", "take: 5: 0", "asks", "journal", "5: 0",
            "run", "take\n", "list\n", "help", ";", "error BadText", "take5: 0", "list;", "none",
        ], "error BadText")

    def test_items(self):
        items = [
            "5:0", "5: 00", "05: 0", "+5: 0", "5", ":", "5: 1 0", "5: 0 0", "5: 12", "5: -1", "1000001: 0", "-1000001: 0",
            " 5: 0", "5: 0 ", "5:  0", "5 : 0", "-0: 0", "x: 0", "5: x", "5: 0\n", "5: 0;5: 1", "9" * 5000 + ": 0", "5: " + "9" * 5000,
        ]
        self.check(["take " + item for item in items] + ["paper " + item for item in items], "error BadText")

    def test_things(self):
        things = ["1000000000", "-1000000000", "0 1000000000", "x", "0 x", "00", "01", "+1", "-0", "0  1", " 0", "0 ", "0,1", "0;",
                  "0; ", "--1", "1-", "-", "0 1 ", "9" * 5000, "1_0"]
        self.check(["ask " + text for text in things] + ["why " + text for text in things], "error BadText")
        self.check([f"judge {text}; answer none" for text in things if text != "0; "], "error BadText")

    def test_things_that_are_no_ask(self):
        things = ["3", "-1", "999999999", "-999999999", "0 1", "1 0", "0 0", "12", "0 1 2 3 4 5 6 7 8 9 10 11 12", "5 -5"]
        self.check(["ask " + text for text in things] + ["why " + text for text in things], "error BadAsk")
        self.check([f"judge {text}; answer none" for text in things], "error BadAsk")
        self.check([f"judge {text}; answer 9: 9; clash 1 of 9: 9; paper 0 of 9: 10" for text in things], "error BadAsk")

    def test_answers_that_are_no_text(self):
        answers = ["", "x", "none", "answer", "answer none;", "answer none; ", "answer none;clash 1 of 5: 0", "; answer none",
                   "answer none; x", "answer none; paper 0 of 5: 0; clash 1 of 5: 0", "answer none; clash 97 of 5: 0",
                   "answer none;  clash 1 of 5: 0", "answer none ", "clash 1 of 5: 0", "answer 5: 12"]
        for things in ("", "0", "0 1"):
            self.check([f"judge {things}; {text}" for text in answers], "error BadText")
        self.check(["judge 0", "judge 0;", "judge ;", "judge 0;answer none", "judge ;answer none", "judge answer none",
                    "judge  ; answer none", "judge 0 ; answer none"], "error BadText")

    def test_lots(self):
        self.check(["take 5:", "take 5: 3", "take 5: 0 1", "take 5: 11", "take 0: 0 1 2 3 4 5 6 7 8 9 10 11"], "error BadLot")

    def test_unknown_items(self):
        self.check(["paper 6: 0", "paper 5: 1", "paper 5:", "paper 5: 11", "paper 5: 0 1"], "error UnknownItem")
        fresh = Desk(small())
        self.assertEqual(fresh.run("take 5: 3"), "error BadLot")
        self.assertEqual(fresh.run("paper 5: 3"), "error UnknownItem")

    def test_an_item_that_was_traded_is_known(self):
        desk = filled()
        self.assertEqual(desk.run("take 9: 1"), "traded 3: 2 = 2*9: 1 + 96*5: 0")
        self.assertEqual(desk.run("paper 3: 2"), "2*9: 1 + 96*5: 0")


class Journals(slow.Case):
    def test_ordinary(self):
        desk = Desk(small())
        lines = ["take 5: 0", "ask", "take 5:", "take 5: 0", "list", "take x", "take 3: 2", "paper 5: 0", "", "take 9: 9"]
        for line in lines:
            desk.run(line)
        self.assertEqual(desk.journal, "take 5: 0\ntake 5: 0\ntake 3: 2\n")
        again = Desk.again(desk.scheme, desk.journal)
        self.assertIs(type(again), Desk)
        self.assertIs(again.scheme, desk.scheme)
        self.assertEqual(state(again), state(desk))

    def test_texts(self):
        desk = Desk(small())
        told = list(desk.run_text("take 5: 0\n\nask\ntake 5: 9\nlist\ntake 3: 1"))
        self.assertEqual(told, ["kept", "error BadText", "5: 0", "error BadLot", "1 items; 5: 0"])
        self.assertEqual(desk.journal, "take 5: 0\n")
        for text in ("", "take 3: 1", "x"):
            self.assertEqual(list(desk.run_text(text)), [])
        self.assertEqual(list(desk.run_text("\n\n")), ["error BadText"] * 2)
        self.assertEqual(desk.run("list"), "1 items; 5: 0")

    def test_one_line_after_the_other(self):
        desk = Desk(small())
        lines = desk.run_text("take 5: 0\ntake 3: 1\nlist\n")
        self.assertEqual(desk.journal, "")
        self.assertEqual((next(lines), desk.journal), ("kept", "take 5: 0\n"))
        self.assertEqual((next(lines), next(lines)), ("kept", "2 items; 5: 0; 3: 1"))

    def test_again_with_any_text(self):
        desk = Desk.again(small(), "take 5: 0\nlist\nx\n\ntake 1: 9\ntake 3: 1\ntake 9: 2")
        self.assertEqual(desk.journal, "take 5: 0\ntake 3: 1\n")
        self.assertEqual(desk.run("list"), "2 items; 5: 0; 3: 1")
        self.assertEqual(Desk.again(small(), "").journal, "")

    def test_two_desks(self):
        scheme = small()
        first, second = Desk(scheme), Desk(scheme)
        first.run("take 5: 0")
        self.assertEqual((second.run("list"), second.journal), ("0 items", ""))


class Whole(slow.Case):
    """A desk against an account, a keeper and plain search."""

    def take(self, desk, account, keeper, item):
        """Bring one item to all three and compare what they tell."""
        word, other, paper = account.take(*item)
        self.assertEqual(keeper.take(*item), (word, other, paper))
        told = {
            "kept": "kept",
            "left": "left = " + format_paper(paper),
            "traded": f"traded {format_item(other or item)} = {format_paper(paper)}",
        }
        self.assertEqual(desk.run("take " + format_item(item)), told[word])

    def compare(self, drawn, desk, account, items):
        """Compare everything that the desk tells with plain search among all items."""
        self.assertEqual(desk.run("list"), told_list(drawn.kept(items)))
        first_fits = []
        for ask in drawn.asks:
            first = drawn.first(items, ask)
            self.assertEqual(desk.run("ask" + words(ask)), format_item(first) if first else "none")
            if first:
                first_fits.append(first)
        self.assertEqual(desk.run("least"), told_list(slow.rank_order(first_fits)))
        for item in items:
            self.assertEqual(desk.run("paper " + format_item(item)), format_paper(account.paper(item)))
        for ask in drawn.asks[:8]:
            told = answer(account, ask)
            why = desk.run("why" + words(ask))
            self.assertEqual(why, "; ".join(answer_lines(told)))
            self.assertTrue(judge_answer(drawn.scheme, items, ask, told))
            self.assertEqual(desk.run("judge" + (words(ask) or " ") + "; " + why), "right")

    def test_drawn(self):
        draw = random.Random(250)
        for _ in range(50):
            drawn = draw_scheme(draw)
            desk, account, keeper = Desk(drawn.scheme), Account(drawn.scheme), Keeper(drawn.scheme)
            items = drawn.items(draw)
            for item in items:
                self.take(desk, account, keeper, item)
                for lot in drawn.bad_lots():
                    if all(0 <= thing < 12 for thing in lot) and list(lot) == sorted(set(lot)):
                        self.assertEqual(desk.run("take " + format_item((9, lot))), "error BadLot")
            self.compare(drawn, desk, account, items)
            self.assertEqual(desk.journal, "".join(f"take {format_item(item)}\n" for item in items))
            again = Desk.again(drawn.scheme, desk.journal)
            self.compare(drawn, again, account, items)
            self.assertEqual(again.journal, desk.journal)
            draw.shuffle(items)
            mixed = Desk(drawn.scheme)
            told = list(mixed.run_text("".join(f"take {format_item(item)}\n" for item in items)))
            self.assertEqual(len(told), len(items))
            self.compare(drawn, mixed, account, items)
            log = "".join(line[5:] + "\n" for line in mixed.journal.splitlines())
            self.assertEqual(told_list(recover(drawn.scheme, log)), desk.run("list"))
