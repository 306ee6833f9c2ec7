"""Points [60] to [63]."""

import random

from fewserve.accounts import Account, settle
from fewserve.errors import BadLot, UnknownItem
from fewserve.judging import judge_deeds, judge_paper
from fewserve.keeping import Keeper
from fewserve.schemes import Scheme, kept_list
from fewserve.tables import Table
from tests import slow
from tests.drawn import draw_scheme


def small():
    return Scheme(Table.plain(3, 2), 1)


def state(account):
    return account.kept(), account.known(), account.deeds(), list(account.papers())


class Accounts(slow.Case):
    def test_ordinary(self):
        scheme = small()
        account = Account(scheme)
        self.assertIs(account.scheme, scheme)
        self.assertEqual(account.take(5, (0,)), ("kept", None, []))
        self.assertEqual(account.take(1, (1,)), ("kept", None, []))
        self.assertEqual(account.paper((1, (1,))), [(1, (1, (1,)))])
        paper = [(49, (5, (0,))), (49, (3, (2,)))]
        self.assertEqual(account.take(3, (2,)), ("traded", (1, (1,)), paper))
        self.assertEqual(account.paper((1, (1,))), paper)
        self.assertEqual(account.kept(), [(5, (0,)), (3, (2,))])
        self.assertEqual(account.known(), [(5, (0,)), (3, (2,)), (1, (1,))])
        told = [((5, (0,)), [(1, (5, (0,)))]), ((3, (2,)), [(1, (3, (2,)))]), ((1, (1,)), paper)]
        self.assertEqual(list(account.papers()), told)
        deeds = [((5, (0,)), ("kept", None, [])), ((1, (1,)), ("kept", None, [])), ((3, (2,)), ("traded", (1, (1,)), paper))]
        self.assertEqual(account.deeds(), deeds)
        self.assertEqual(settle(scheme, deeds), told)
        # The paper changes with the list.
        account.take(9, (1,))
        self.assertEqual(account.kept(), [(9, (1,)), (5, (0,))])
        self.assertEqual(account.paper((1, (1,))), [(1, (9, (1,)))])

    def test_edges(self):
        account = Account(small())
        self.assertEqual(state(account), ([], [], [], []))
        self.assertEqual(settle(small(), []), [])
        account.take(5, (0,))
        account.take(5, (0,))
        self.assertEqual(account.known(), [(5, (0,))])
        told = [((5, (0,)), ("kept", None, [])), ((5, (0,)), ("left", (5, (0,)), [(1, (5, (0,)))]))]
        self.assertEqual(account.deeds(), told)
        self.assertEqual(settle(account.scheme, told), [((5, (0,)), [(1, (5, (0,)))])])
        zero = Account(Scheme(Table([[0]], 1), 1))
        self.assertEqual(zero.take(4, (0,)), ("left", (4, (0,)), []))
        self.assertEqual(state(zero), ([], [(4, (0,))], [((4, (0,)), ("left", (4, (0,)), []))], [((4, (0,)), [])]))
        self.assertEqual(zero.paper((4, (0,))), [])

    def test_papers_is_a_generator(self):
        account = Account(small())
        account.take(5, (0,))
        found = account.papers()
        self.assertIs(iter(found), found)
        self.assertEqual(next(found), ((5, (0,)), [(1, (5, (0,)))]))
        self.assertEqual(list(found), [])

    def test_bad_lots(self):
        draw = random.Random(80)
        for _ in range(40):
            drawn = draw_scheme(draw)
            account = Account(drawn.scheme)
            for item in drawn.items(draw, 5):
                account.take(*item)
            before = state(account)
            for lot in drawn.bad_lots():
                self.refuse(BadLot, {"lot": lot}, account.take, 9, lot)
                self.refuse(UnknownItem, {"item": (9, lot)}, account.paper, (9, lot))
                self.assertEqual(state(account), before)

    def test_unknown_items(self):
        account = Account(small())
        self.refuse(UnknownItem, {"item": (5, (0,))}, account.paper, (5, (0,)))
        account.take(5, (0,))
        account.take(1, (1,))
        before = state(account)
        for item in ((4, (0,)), (5, (1,)), (3, (2,)), (5, ()), (5, (0, 1)), (5, (9,)), (10 ** 5000, (0,))):
            self.refuse(UnknownItem, {"item": item}, account.paper, item)
        self.assertEqual(state(account), before)

    def test_drawn(self):
        draw = random.Random(81)
        for _ in range(150):
            drawn = draw_scheme(draw)
            scheme = drawn.scheme
            keeper, account = Keeper(scheme), Account(scheme)
            taken, told = [], []
            for item in drawn.items(draw, 10, 2):
                deed = keeper.take(*item)
                self.assertEqual(account.take(*item), deed)
                taken.append(item)
                told.append((item, deed))
                self.assertEqual(account.kept(), list(keeper))
            known = slow.rank_order(taken)
            kept = drawn.kept(taken)
            self.assertEqual((account.kept(), account.known(), account.deeds()), (kept, known, told))
            found = list(account.papers())
            self.assertEqual([item for item, _ in found], known)
            for item, paper in found:
                self.assertTrue(drawn.is_paper_over(kept, item, paper))
                self.assertTrue(judge_paper(scheme, item, paper))
                self.assertEqual(account.paper(item), paper)
                if item in kept:
                    self.assertEqual(paper, [(1, item)])
            self.assertEqual(settle(scheme, told), found)
            self.assertEqual(settle(scheme, account.deeds()), found)
            self.assertEqual(judge_deeds(scheme, account.deeds()), kept)

    def test_settling_at_each_time(self):
        draw = random.Random(82)
        for _ in range(40):
            drawn = draw_scheme(draw)
            account = Account(drawn.scheme)
            for item in drawn.items(draw, 8, 2):
                account.take(*item)
                self.assertEqual(settle(drawn.scheme, account.deeds()), list(account.papers()))

    def test_great_stream(self):
        draw = random.Random(83)
        scheme = Scheme(Table.plain(12, 6), 3)
        items = slow.draw_items(draw, 200, 12, 3, 50)
        account = Account(scheme)
        for worth, lot in items:
            account.take(worth, lot)
        kept = kept_list(scheme, items)
        self.assertEqual(account.kept(), kept)
        found = list(account.papers())
        self.assertEqual(found, settle(scheme, account.deeds()))
        for item, paper in found:
            self.assertTrue(judge_paper(scheme, item, paper))
            self.assertTrue(all(one in kept for _, one in paper))


class NewLists(slow.Case):
    def test_lists_that_are_returned(self):
        account = Account(small())
        for item in ((5, (0,)), (1, (1,)), (3, (2,)), (2, (2,))):
            # The deed that was returned may be changed: the account has its own.
            deed = account.take(*item)
            deed[2].append("changed")
        before = state(account)
        self.assertNotIn("changed", str(before))
        account.kept().clear()
        account.known().clear()
        for item, _ in before[3]:
            account.paper(item).clear()
        for _, paper in account.papers():
            paper.clear()
        deeds = account.deeds()
        for _, (_, _, entries) in deeds:
            entries.append("changed")
        deeds.clear()
        self.assertEqual(state(account), before)

    def test_settling_keeps_the_deeds(self):
        account = Account(small())
        for item in ((5, (0,)), (1, (1,)), (3, (2,)), (2, (2,))):
            account.take(*item)
        deeds = account.deeds()
        found = settle(account.scheme, deeds)
        for _, paper in found:
            paper.clear()
        found.clear()
        self.assertEqual(deeds, account.deeds())
        self.assertEqual(settle(account.scheme, deeds), list(account.papers()))

    def test_accounts_are_independent(self):
        scheme = small()
        first, second = Account(scheme), Account(scheme)
        first.take(5, (0,))
        self.assertEqual(state(second), ([], [], [], []))
