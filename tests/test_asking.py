"""Points [70] to [74]."""

import random

from fewserve.accounts import Account
from fewserve.asking import Asker, answer, judge_answer, profile
from fewserve.clashes import clash
from fewserve.errors import BadAsk, BadLot
from fewserve.kinds import Kinds
from fewserve.roots import Roots
from fewserve.schemes import Scheme, first_fit
from fewserve.tables import Table
from tests import slow
from tests.drawn import draw_scheme
from tests.test_clashes import is_clash
from tests.test_judging import spoil_paper


def small():
    return Scheme(Table.plain(3, 2), 1)


def account_of(scheme, items):
    account = Account(scheme)
    for worth, lot in items:
        account.take(worth, lot)
    return account


def state(account):
    return account.kept(), account.known(), account.deeds(), list(account.papers())


def before(item, first):
    """Return whether the item ranks before the first value of an answer."""
    return first is None or item != first and slow.rank_order([item, first])[0] == item


def slow_judge(drawn, items, ask, told):
    """Judge an answer by the four conditions of [73], one after the other."""
    first, clashes, papers = told
    if first is not None:
        if first not in items or not drawn.fits(first[1], ask):
            return False
    for (_, lot), numbers in clashes:
        if lot not in drawn.lots or not is_clash(drawn.table, lot + ask, numbers):
            return False
    for item, entries in papers:
        if item[1] not in drawn.lots or not drawn.is_paper(item, entries):
            return False
        for _, other in entries:
            if other not in [one for one, _ in clashes]:
                return False
    listed = [one for one, _ in clashes + papers]
    return all(item in listed for item in items if before(item, first))


class Profiles(slow.Case):
    def test_ordinary(self):
        items = [(3, (2,)), (1, (1,)), (5, (0,)), (3, (2,))]
        told = [((), (5, (0,))), ((0,), (3, (2,))), ((1,), (5, (0,))), ((2,), (5, (0,)))]
        self.assertEqual(profile(small(), items), told)
        self.assertEqual(items, [(3, (2,)), (1, (1,)), (5, (0,)), (3, (2,))])

    def test_edges(self):
        self.assertEqual(profile(small(), []), [((), None), ((0,), None), ((1,), None), ((2,), None)])
        self.assertEqual(profile(Scheme(Table([], 0), 0), []), [((), None)])
        self.assertEqual(profile(Scheme(Table([], 0), 0), [(2, ()), (3, ())]), [((), (3, ()))])
        whole = Scheme(Table.plain(3, 2), 2)
        self.assertEqual(profile(whole, [(1, (0, 2)), (1, (0, 1))]), [((), (1, (0, 1)))])
        nothing = Scheme(Table([[0, 0], [1, 0], [2, 0]], 2), 0)
        told = [((), 7), ((0,), 0), ((1,), 7), ((2,), 7), ((0, 1), 0), ((0, 2), 0), ((1, 2), 0)]
        found = [(ask, item[0] if item else 0) for ask, item in profile(nothing, [(7, ()), (5, ())])]
        self.assertEqual(found, told)

    def test_kinds(self):
        kinds = Kinds([Table.plain(2, 2), Table.plain(2, 1)], [1, 0])
        told = [(), (0,), (1,), (2,), (3,), (0, 2), (0, 3), (1, 2), (1, 3)]
        self.assertEqual([ask for ask, _ in profile(kinds, [])], told)
        self.assertEqual(dict(profile(kinds, [(4, (0,)), (3, (1,))]))[(0, 3)], (3, (1,)))

    def test_drawn(self):
        draw = random.Random(100)
        for _ in range(120):
            drawn = draw_scheme(draw)
            items = drawn.items(draw)
            copy = list(items)
            told = [(ask, drawn.first(items, ask)) for ask in drawn.asks]
            self.assertEqual(profile(drawn.scheme, items), told)
            self.assertEqual(items, copy)
            for lot in drawn.bad_lots():
                spoilt = items[:2] + [(0, lot)] + items[2:] + [(0, drawn.bad_lots()[0])]
                self.refuse(BadLot, {"lot": lot}, profile, drawn.scheme, spoilt)

    def test_returned_list_is_new(self):
        scheme = small()
        profile(scheme, [(1, (1,))]).clear()
        self.assertEqual(len(profile(scheme, [(1, (1,))])), 4)


class Askers(slow.Case):
    def test_counting(self):
        items = [(3, (2,)), (5, (0,))]
        asker = Asker(small(), items)
        self.assertEqual(asker.asked, 0)
        self.assertEqual(asker((0,)), (3, (2,)))
        self.assertEqual(asker.asked, 1)
        self.assertEqual(asker((2,)), (5, (0,)))
        self.assertEqual(asker((2,)), (5, (0,)))
        self.assertEqual(asker.asked, 3)
        for ask in ((0, 1), (3,), (-1,), (1, 0), (10 ** 30,)):
            self.refuse(BadAsk, {"ask": ask}, asker, ask)
            self.assertEqual(asker.asked, 3)
        self.assertEqual(asker(()), (5, (0,)))
        self.assertEqual(asker.asked, 4)
        self.assertEqual(items, [(3, (2,)), (5, (0,))])

    def test_an_answer_of_none_counts(self):
        asker = Asker(small(), [(1, (1,))])
        self.assertIsNone(asker((1,)))
        self.assertEqual(asker.asked, 1)
        empty = Asker(small(), [])
        self.assertIsNone(empty(()))
        self.assertEqual((empty.asked, asker.asked), (1, 1))

    def test_list_that_is_passed(self):
        items = [(3, (2,)), (5, (0,))]
        asker = Asker(small(), items)
        items.append((9, (1,)))
        items[1] = (0, (0,))
        self.assertEqual([asker(ask) for ask in ((), (0,), (1,), (2,))], [(5, (0,)), (3, (2,)), (5, (0,)), (5, (0,))])

    def test_bad_lots(self):
        for lot in ((), (0, 1), (3,), (-1,)):
            self.refuse(BadLot, {"lot": lot}, Asker, small(), [(1, (1,)), (0, lot), (9, (0, 2))])

    def test_drawn(self):
        draw = random.Random(101)
        for _ in range(80):
            drawn = draw_scheme(draw)
            items = drawn.items(draw)
            asker = Asker(drawn.scheme, items)
            for many, ask in enumerate(drawn.asks, start=1):
                self.assertEqual(asker(ask), drawn.first(items, ask))
                self.assertEqual(asker.asked, many)
            for ask in drawn.bad_asks():
                self.refuse(BadAsk, {"ask": ask}, asker, ask)
            self.assertEqual(asker.asked, len(drawn.asks))


class Answers(slow.Case):
    def test_ordinary(self):
        account = account_of(small(), [(5, (0,)), (4, (0,)), (3, (2,)), (1, (1,))])
        told = ((3, (2,)), [((5, (0,)), [96, 1])], [((4, (0,)), [(1, (5, (0,)))])])
        self.assertEqual(answer(account, (0,)), told)
        self.assertEqual(answer(account, ()), ((5, (0,)), [], []))
        self.assertEqual(answer(account, (2,)), ((5, (0,)), [], []))

    def test_no_first_fit(self):
        account = account_of(small(), [(5, (0,)), (4, (0,)), (7, (0,))])
        papers = [((5, (0,)), [(1, (7, (0,)))]), ((4, (0,)), [(1, (7, (0,)))])]
        self.assertEqual(answer(account, (0,)), (None, [((7, (0,)), [96, 1])], papers))
        self.assertEqual(answer(Account(small()), (0,)), (None, [], []))
        zero = account_of(Scheme(Table([[0, 0], [1, 1]], 2), 1), [(5, (0,))])
        self.assertEqual(answer(zero, ()), (None, [], [((5, (0,)), [])]))
        self.assertTrue(judge_answer(zero.scheme, [(5, (0,))], (), answer(zero, ())))

    def test_bad_asks(self):
        draw = random.Random(102)
        for _ in range(30):
            drawn = draw_scheme(draw)
            account = account_of(drawn.scheme, drawn.items(draw, 5))
            told = state(account)
            for ask in drawn.bad_asks():
                self.refuse(BadAsk, {"ask": ask}, answer, account, ask)
            self.assertEqual(state(account), told)

    def test_drawn(self):
        draw = random.Random(103)
        papers_seen = 0
        for _ in range(120):
            drawn = draw_scheme(draw)
            items = drawn.items(draw)
            account = account_of(drawn.scheme, items)
            told = state(account)
            for ask in draw.sample(drawn.asks, min(8, len(drawn.asks))):
                found = answer(account, ask)
                self.assertIs(type(found), tuple)
                first, clashes, papers = found
                self.assertEqual(first, drawn.first(items, ask))
                kept, known = account.kept(), account.known()
                dearer = [item for item in known if before(item, first)]
                expected = [(item, clash(drawn.scheme, item[1], ask)) for item in dearer if item in kept]
                self.assertEqual(clashes, expected)
                expected = [(item, account.paper(item)) for item in dearer if item not in kept]
                self.assertEqual(papers, expected)
                papers_seen += len(papers)
                self.assertIs(judge_answer(drawn.scheme, items, ask, found), True)
                self.assertTrue(slow_judge(drawn, items, ask, found))
            self.assertEqual(state(account), told)
        self.assertGreater(papers_seen, 80)

    def test_returned_lists_are_new(self):
        account = account_of(small(), [(5, (0,)), (4, (0,)), (3, (2,)), (1, (1,))])
        told = state(account)
        first = answer(account, (0,))
        for _, numbers in first[1]:
            numbers.clear()
        for _, entries in first[2]:
            entries.clear()
        first[1].clear()
        first[2].clear()
        self.assertEqual(state(account), told)
        self.assertEqual(answer(account, (0,))[1:], ([((5, (0,)), [96, 1])], [((4, (0,)), [(1, (5, (0,)))])]))

    def test_great_stream(self):
        draw = random.Random(104)
        scheme = Scheme(Table.plain(12, 6), 3)
        items = slow.draw_items(draw, 200, 12, 3, 50)
        account = account_of(scheme, items)
        for ask in draw.sample(slow.asks(12, 3), 20):
            found = answer(account, ask)
            self.assertEqual(found[0], first_fit(scheme, items, ask))
            self.assertTrue(judge_answer(scheme, items, ask, found))


class Judged(slow.Case):
    items = [(5, (0,)), (4, (0,)), (3, (2,)), (1, (1,))]
    clashes = [((5, (0,)), [96, 1])]
    papers = [((4, (0,)), [(1, (5, (0,)))])]

    def judge(self, first, clashes, papers, ask=(0,)):
        return judge_answer(small(), self.items, ask, (first, clashes, papers))

    def test_right(self):
        item = (3, (2,))
        more = ((9, (0,)), [1, 96])
        for clashes, papers in (
            (self.clashes, self.papers), (self.clashes * 3, self.papers * 2), (self.clashes + [more], self.papers),
            # The other item may have a clash instead of a paper; papers may lean on any clash.
            (self.clashes + [((4, (0,)), [3, 94])], []), ([more] + self.clashes, [((4, (0,)), [(1, (9, (0,)))])]),
            ([more], [((4, (0,)), [(1, (9, (0,)))]), ((5, (0,)), [(1, (9, (0,)))])]),
            # An item of the second value may prove itself, and dear items that are not in the list do no harm.
            (self.clashes, self.papers + [((5, (0,)), [(1, (5, (0,)))])]), (self.clashes + [((3, (0,)), [96, 1])], self.papers),
        ):
            self.assertIs(self.judge(item, clashes, papers), True)
        self.assertIs(self.judge((5, (0,)), [], [], ()), True)
        self.assertIs(self.judge((5, (0,)), [], [], (1,)), True)
        self.assertIs(judge_answer(small(), [], (0,), (None, [], [])), True)

    def test_wrong(self):
        item = (3, (2,))
        for first, clashes, papers in (
            (None, self.clashes, self.papers), ((1, (1,)), self.clashes, self.papers), ((5, (0,)), [], []),
            ((4, (2,)), self.clashes, self.papers), ((2, (2,)), self.clashes, self.papers), ((4, (0,)), self.clashes, []),
            (item, [], []), (item, self.clashes, []), (item, [], self.papers), (item, [((5, (0,)), [96, 2])], self.papers),
            (item, [((5, (0,)), [96, 1, 0])], self.papers), (item, [((5, (0,)), [])], self.papers),
            (item, [((5, (0,)), [0, 0])], self.papers), (item, [((5, (0,)), [-1, 1])], self.papers),
            (item, self.clashes, [((4, (0,)), [(2, (5, (0,)))])]), (item, self.clashes, [((4, (0,)), [])]),
            (item, self.clashes, [((4, (0,)), [(1, (9, (0,)))])]), (item, self.clashes, [((4, (0,)), [(1, (4, (0,)))])]),
            (item, self.clashes + [((3, (2,)), [1, 1])], self.papers), (item, self.clashes, self.papers + [((1, (1,)), [])]),
            (item, self.clashes + [((9, (0, 1)), [96, 1])], self.papers), ((3, ()), self.clashes, self.papers),
            (item, self.clashes, self.papers + [((9, ()), [])]), (item, self.clashes, self.papers + [((9, (7,)), [(1, (9, (7,)))])]),
            ((3, (7,)), self.clashes, self.papers), ((3, (0, 2)), self.clashes, self.papers),
            (item, self.clashes + [((9, (5,)), [0, 0])], self.papers),
            # A paper may lean on the second value only, not on another paper.
            (item, self.clashes, self.papers + [((2, (0,)), [(1, (4, (0,)))])]),
        ):
            self.assertIs(self.judge(first, clashes, papers), False, (first, clashes, papers))

    def test_which_error_comes_first(self):
        told = (None, [], [])
        for ask in ((0, 1), (3,), (-1,)):
            self.refuse(BadAsk, {"ask": ask}, judge_answer, small(), [(1, (7,))], ask, told)
        for lot in ((), (7,), (0, 1)):
            self.refuse(BadLot, {"lot": lot}, judge_answer, small(), [(1, (1,)), (0, lot), (5, (8,))], (0,), told)
            self.refuse(BadLot, {"lot": lot}, judge_answer, small(), [(1, (1,)), (0, lot)], (0,), ((9, (9,)), [], []))
            # No part of the answer raises an error.
            for spoilt in (
                ((0, lot), [], []), (None, [((0, lot), [1])], []), (None, [], [((0, lot), [])]),
                (None, [], [((0, (1,)), [(1, (2, lot))])]), (None, [], [((0, lot), [(1, (0, lot))])]),
            ):
                self.assertIs(judge_answer(small(), self.items, (0,), spoilt), False)

    def test_drawn(self):
        draw = random.Random(105)
        right = wrong = 0
        for _ in range(150):
            drawn = draw_scheme(draw)
            items = drawn.items(draw, 8, 2)
            account = account_of(drawn.scheme, items)
            for ask in draw.sample(drawn.asks, min(3, len(drawn.asks))):
                told = answer(account, ask)
                for _ in range(12):
                    spoilt = spoil_answer(draw, drawn, items, told)
                    copy = repr(spoilt)
                    expected = slow_judge(drawn, items, ask, spoilt)
                    self.assertIs(judge_answer(drawn.scheme, items, ask, spoilt), expected)
                    self.assertEqual(repr(spoilt), copy)
                    right += expected
                    wrong += not expected
                    if expected:
                        self.assertEqual(spoilt[0], drawn.first(items, ask))
        self.assertGreater(right, 500)
        self.assertGreater(wrong, 500)

    def test_roots(self):
        items = [(5, (0, 1)), (4, (0, 2)), (4, (1, 2)), (2, (2, 3)), (1, (0, 3))]
        roots = Roots([5, 0, -7, 30], 2, 1)
        account = account_of(roots, items)
        for ask in ((), (0,), (1,), (2,), (3,)):
            self.assertTrue(judge_answer(roots, items, ask, answer(account, ask)))


def spoil_answer(draw, drawn, items, told):
    """Return the answer with one part changed, moved, left out or added."""
    first, clashes, papers = told
    clashes, papers = list(clashes), list(papers)
    lots = drawn.lots + drawn.bad_lots()
    new = (draw.randint(-2, 3), draw.choice(lots))
    deed = draw.randrange(10)
    if deed == 0:
        first = draw.choice([None, new] + items)
    elif deed == 1:
        draw.shuffle(clashes)
        draw.shuffle(papers)
    elif deed == 2:
        clashes, papers = clashes + clashes[:1], papers + papers[:1]
    elif deed == 3:
        clashes.append((new, [draw.randint(0, 1) for _ in range(draw.randint(0, 3))]))
    elif deed == 4:
        papers.append((new, draw.choice([[], [(1, new)]])))
    elif deed in (5, 6, 7) and clashes:
        at = draw.randrange(len(clashes))
        item, numbers = clashes[at]
        other = draw.choice([[2 * number % 97 for number in numbers], numbers[1:], [0] * len(numbers), numbers + [0]])
        clashes[at] = draw.choice([(item, other), (new, numbers), clashes[0]])
        if deed == 5:
            del clashes[at]
    elif papers:
        at = draw.randrange(len(papers))
        item, entries = papers[at]
        papers[at] = draw.choice([(item, spoil_paper(draw, drawn, entries)), (new, entries), papers[0]])
        if deed == 9:
            del papers[at]
    return first, clashes, papers
