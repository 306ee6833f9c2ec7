"""Points [47], [48] and [57] to [59]."""

import random

from fewserve.errors import BadLot
from fewserve.judging import judge_deeds, judge_paper
from fewserve.keeping import Keeper
from fewserve.schemes import Scheme
from fewserve.tables import Table
from tests import slow
from tests.drawn import draw_scheme

ZERO = (5, (0,))
TWO = (3, (2,))
PAPER = [(49, ZERO), (49, TWO)]


def small():
    return Scheme(Table.plain(3, 2), 1)


def slow_judge(drawn, deeds):
    """Judge deeds word by word, as [58] says it."""
    listed = []
    for item, (word, other, entries) in deeds:
        if item[1] not in drawn.lots:
            return None
        if word == "kept":
            if other is not None or entries or item in listed:
                return None
            listed.append(item)
        elif word == "left":
            if other != item or not drawn.is_paper_over(listed, item, entries):
                return None
        elif word == "traded":
            if other not in listed or item in listed or slow.rank_order([item, other])[0] != item:
                return None
            listed[listed.index(other)] = item
            if not drawn.is_paper_over(listed, other, entries):
                return None
        else:
            return None
    return slow.rank_order(listed)


class Judged(slow.Case):
    def test_right_papers(self):
        scheme = small()
        for item in ((1, (1,)), (-(10 ** 30), (1,)), (2, (1,)), (3, (0,))):
            self.assertIs(judge_paper(scheme, item, [(1, item)]), True)
        self.assertIs(judge_paper(scheme, (1, (1,)), PAPER), True)
        self.assertIs(judge_paper(scheme, (0, (1,)), [(1, (1, (1,)))]), True)
        self.assertIs(judge_paper(scheme, (3, (2,)), [(1, (3, (2,)))]), True)
        # Any items may stand in a paper, also ones that the list of no keeper has.
        self.assertIs(judge_paper(scheme, (1, (0,)), [(2, (9, (0,))), (96, (8, (0,)))]), True)

    def test_wrong_papers(self):
        scheme = small()
        item = (1, (1,))
        for paper in (
            [], [(49, ZERO)], [(49, TWO), (49, ZERO)], [(48, ZERO), (49, TWO)], [(49, ZERO), (50, TWO)],
            [(49 + 97, ZERO), (49, TWO)], [(49 - 97, ZERO), (49, TWO)], [(0, (9, (2,)))] + PAPER, [(97, (9, (2,)))] + PAPER,
            [(49, ZERO), (49, (0, (2,)))], [(49, ZERO), (49, (1, (2,)))], [(2, item)], [(1, item), (1, item)], PAPER + [(96, item)],
            [(98, item)], [(1, (1, (0,)))], [(49, ZERO), (49, ZERO)], [(49, ZERO), (49, TWO), (0, item)],
            [(10 ** 30, ZERO), (49, TWO)], [(-48, ZERO), (49, TWO)],
        ):
            self.assertIs(judge_paper(scheme, item, paper), False, paper)

    def test_an_item_in_its_own_paper(self):
        # Only as the one entry with the coefficient 1.
        scheme = Scheme(Table([[0, 0], [1, 0], [1, 0]], 2), 1)
        item = (4, (1,))
        self.assertTrue(judge_paper(scheme, item, [(1, item)]))
        self.assertTrue(judge_paper(scheme, item, [(1, (4, (0,))), (1, (5, (1,)))]) is False)
        self.assertTrue(judge_paper(scheme, item, [(1, (5, (1,))), (1, (4, (0,)))]))
        self.assertFalse(judge_paper(scheme, item, [(5, (4, (0,))), (1, item)]))
        self.assertFalse(judge_paper(scheme, (4, (0,)), [(2, (4, (0,)))]))

    def test_row_of_zeros(self):
        scheme = Scheme(Table([[0, 97], [1, 2]], 2), 1)
        self.assertIs(judge_paper(scheme, (5, (0,)), []), True)
        self.assertIs(judge_paper(scheme, (5, (0,)), [(1, (5, (0,)))]), True)
        self.assertIs(judge_paper(scheme, (5, (0,)), [(7, (6, (0,)))]), True)
        self.assertIs(judge_paper(scheme, (5, (1,)), []), False)
        nothing = Scheme(Table([], 0), 0)
        self.assertIs(judge_paper(nothing, (5, ()), []), False)
        self.assertIs(judge_paper(nothing, (5, ()), [(1, (6, ()))]), True)
        self.assertIs(judge_paper(nothing, (5, ()), [(1, (5, ()))]), True)
        self.assertIs(judge_paper(nothing, (5, ()), [(1, (4, ()))]), False)

    def test_equal_worths(self):
        scheme = Scheme(Table([[1], [1], [1]], 1), 1)
        self.assertTrue(judge_paper(scheme, (5, (1,)), [(1, (5, (0,)))]))
        self.assertFalse(judge_paper(scheme, (5, (1,)), [(1, (5, (2,)))]))

    def test_lots(self):
        scheme = small()
        for lot in ((), (0, 1), (3,), (-1,), (10 ** 30,), (1, 0)):
            self.refuse(BadLot, {"lot": lot}, judge_paper, scheme, (5, lot), [])
            self.refuse(BadLot, {"lot": lot}, judge_paper, scheme, (5, lot), [(1, (5, lot))])
            for paper in ([(1, (9, lot))], PAPER + [(1, (2, lot))], [(1, (9, lot))] + PAPER):
                self.assertIs(judge_paper(scheme, (1, (1,)), paper), False)

    def test_drawn(self):
        draw = random.Random(70)
        right = wrong = 0
        for _ in range(200):
            drawn = draw_scheme(draw)
            items = drawn.items(draw, 6, 2)
            if not items:
                continue
            keeper = Keeper(drawn.scheme, items)
            for item in items:
                paper = keeper.take(*item)[2]
                for spoilt in [paper] + [spoil_paper(draw, drawn, paper) for _ in range(6)]:
                    copy = list(spoilt)
                    told = drawn.is_paper(item, spoilt)
                    self.assertIs(judge_paper(drawn.scheme, item, spoilt), told)
                    self.assertEqual(spoilt, copy)
                    right += told
                    wrong += not told
        self.assertGreater(right, 500)
        self.assertGreater(wrong, 500)


def spoil_paper(draw, drawn, paper):
    """Return the paper with one part changed, or moved, or left out, or added."""
    paper = list(paper)
    lots = drawn.lots + drawn.bad_lots()
    new = (draw.choice([0, 1, 2, 96, 97, -1]), (draw.randint(-2, 3), draw.choice(lots)))
    deed = draw.randrange(6)
    if not paper or deed == 0:
        return paper[:1] + [new] + paper[1:]
    at = draw.randrange(len(paper))
    number, item = paper[at]
    if deed == 1:
        del paper[at]
    elif deed == 2:
        paper[at] = (draw.choice([0, 97, number + 97, number - 97, 97 - number, number + 1]), item)
    elif deed == 3:
        paper[at] = (number, new[1])
    elif deed == 4:
        paper.reverse()
    else:
        paper.append(paper[at])
    return paper


class Deeds(slow.Case):
    def test_ordinary(self):
        scheme = small()
        deeds = [
            ((5, (0,)), ("kept", None, [])),
            ((1, (1,)), ("kept", None, [])),
            ((3, (2,)), ("traded", (1, (1,)), PAPER)),
            ((1, (1,)), ("left", (1, (1,)), PAPER)),
            ((3, (2,)), ("left", (3, (2,)), [(1, (3, (2,)))])),
        ]
        told = [[], [(5, (0,))], [(5, (0,)), (1, (1,))], [(5, (0,)), (3, (2,))], [(5, (0,)), (3, (2,))]]
        for many in range(5):
            self.assertEqual(judge_deeds(scheme, deeds[:many]), told[many])
        self.assertEqual(judge_deeds(scheme, deeds), [(5, (0,)), (3, (2,))])

    def test_the_list_is_in_rank_order(self):
        scheme = Scheme(Table.plain(4, 3), 1)
        deeds = [((worth, (at,)), ("kept", None, [])) for at, worth in enumerate((1, 7, 7))]
        self.assertEqual(judge_deeds(scheme, deeds), [(7, (1,)), (7, (2,)), (1, (0,))])

    def test_independence_is_not_asked(self):
        scheme = Scheme(Table.plain(3, 1), 1)
        deeds = [((at, (at,)), ("kept", None, [])) for at in range(3)]
        self.assertEqual(judge_deeds(scheme, deeds), [(2, (2,)), (1, (1,)), (0, (0,))])
        zero = Scheme(Table([[0]], 1), 1)
        self.assertEqual(judge_deeds(zero, [((5, (0,)), ("kept", None, []))]), [(5, (0,))])

    def test_wrong_deeds(self):
        scheme = small()
        start = [((5, (0,)), ("kept", None, [])), ((1, (1,)), ("kept", None, []))]
        item = (3, (2,))
        own = [(1, item)]
        for pair in (
            (item, ("Kept", None, [])), (item, ("", None, [])), (item, ("joined", None, [])),
            (item, ("kept", item, [])), (item, ("kept", None, own)), ((5, (0,)), ("kept", None, [])),
            ((5, ()), ("kept", None, [])), ((5, (3,)), ("kept", None, [])), ((5, (0, 1)), ("kept", None, [])),
            (item, ("left", None, [])), (item, ("left", None, own)), (item, ("left", item, [])),
            (item, ("left", item, own)), (item, ("left", (5, (0,)), [(1, (5, (0,)))])),
            ((0, (2,)), ("left", (0, (2,)), PAPER)), ((5, ()), ("left", (5, ()), [(1, (5, ()))])),
            ((5, ()), ("left", (5, ()), [])),
            (item, ("traded", None, PAPER)), (item, ("traded", (1, (1,)), [])), (item, ("traded", (1, (1,)), own)),
            (item, ("traded", (5, (0,)), PAPER)), (item, ("traded", (9, (1,)), PAPER)), (item, ("traded", item, own)),
            (item, ("traded", (1, (1,)), [(1, (1, (1,)))])), ((5, (0,)), ("traded", (1, (1,)), [])),
            ((0, (2,)), ("traded", (1, (1,)), [(49, (5, (0,))), (49, (0, (2,)))])),
            ((9, (3,)), ("traded", (1, (1,)), PAPER)), (item, ("traded", (1, (3,)), PAPER)),
            ((1, (1,)), ("traded", (1, (1,)), [(1, (1, (1,)))])),
        ):
            self.assertIsNone(judge_deeds(scheme, start + [pair]), pair)
            self.assertIsNone(judge_deeds(scheme, start + [pair] + start[:0]), pair)
            self.assertIsNone(judge_deeds(scheme, start + [pair, ((1, (1,)), ("left", (1, (1,)), [(1, (1, (1,)))]))]))
        self.assertEqual(judge_deeds(scheme, start), [(5, (0,)), (1, (1,))])

    def test_paper_over_the_list_after_the_exchange(self):
        # The paper may not lean on the item that leaves, nor may one of a left item on what is not listed.
        scheme = Scheme(Table([[1], [1], [1]], 1), 1)
        start = [((1, (0,)), ("kept", None, []))]
        self.assertEqual(judge_deeds(scheme, start + [((2, (1,)), ("traded", (1, (0,)), [(1, (2, (1,)))]))]), [(2, (1,))])
        self.assertIsNone(judge_deeds(scheme, start + [((2, (1,)), ("traded", (1, (0,)), [(1, (1, (0,)))]))]))
        self.assertIsNone(judge_deeds(scheme, start + [((2, (1,)), ("traded", (1, (0,)), [(1, (9, (2,)))]))]))
        self.assertIsNone(judge_deeds(scheme, start + [((0, (1,)), ("left", (0, (1,)), [(1, (9, (2,)))]))]))
        self.assertIsNone(judge_deeds(scheme, start + [((0, (1,)), ("left", (0, (1,)), [(1, (0, (1,)))]))]))

    def test_what_leaves_ranks_after_the_item(self):
        # The rows depend on each other, so the paper is right also without the new item.
        scheme = Scheme(Table([[1], [1], [1], [1]], 1), 1)
        start = [((5, (0,)), ("kept", None, [])), ((3, (1,)), ("kept", None, []))]
        paper = [(1, (5, (0,)))]
        self.assertEqual(judge_deeds(scheme, start + [((4, (2,)), ("traded", (3, (1,)), paper))]), [(5, (0,)), (4, (2,))])
        self.assertEqual(judge_deeds(scheme, start + [((3, (0,)), ("traded", (3, (1,)), paper))]), [(5, (0,)), (3, (0,))])
        for item in ((2, (2,)), (3, (2,)), (2, (1,))):
            self.assertIsNone(judge_deeds(scheme, start + [(item, ("traded", (3, (1,)), paper))]))

    def test_all_other_words_are_wrong(self):
        scheme = Scheme(Table([[1], [1], [1]], 1), 1)
        start = [((5, (0,)), ("kept", None, [])), ((3, (1,)), ("kept", None, []))]
        for word in ("gone", "", "Traded", "trade", "answer"):
            for other in (None, (3, (1,)), (4, (2,)), (5, (0,))):
                for paper in ([], [(1, (5, (0,)))], [(1, (3, (1,)))], [(1, (4, (2,)))]):
                    self.assertIsNone(judge_deeds(scheme, start + [((4, (2,)), (word, other, paper))]))

    def test_a_wrong_deed_takes_no_later_one_right(self):
        scheme = small()
        self.assertIsNone(judge_deeds(scheme, [((1, (1,)), ("left", (1, (1,)), PAPER))]))
        self.assertIsNone(judge_deeds(scheme, [((5, (7,)), ("kept", None, [])), ((5, (0,)), ("kept", None, []))]))

    def test_drawn(self):
        draw = random.Random(71)
        right = wrong = 0
        for _ in range(200):
            drawn = draw_scheme(draw)
            items = drawn.items(draw, 8, 2)
            keeper = Keeper(drawn.scheme)
            deeds = list(zip(items, keeper.take_all(*items)))
            self.assertEqual(slow_judge(drawn, deeds), list(keeper))
            self.assertEqual(judge_deeds(drawn.scheme, deeds), list(keeper))
            if not deeds:
                continue
            for _ in range(12):
                spoilt = spoil_deeds(draw, drawn, deeds)
                copy = [(item, (word, other, list(entries))) for item, (word, other, entries) in spoilt]
                told = slow_judge(drawn, spoilt)
                found = judge_deeds(drawn.scheme, spoilt)
                self.assertEqual(found, told)
                self.assertEqual(spoilt, copy)
                right += told is not None
                wrong += told is None
                if told is None:
                    continue
                # Whatever was judged right leads to a list with the same first fits.
                taken = [item for item, _ in spoilt]
                for ask in drawn.asks:
                    self.assertEqual(drawn.first(found, ask), drawn.first(taken, ask))
        self.assertGreater(right, 150)
        self.assertGreater(wrong, 500)

    def test_returned_list_is_new(self):
        deeds = [((5, (0,)), ("kept", None, []))]
        judge_deeds(small(), deeds).clear()
        self.assertEqual(judge_deeds(small(), deeds), [(5, (0,))])
        self.assertEqual(deeds, [((5, (0,)), ("kept", None, []))])


def spoil_deeds(draw, drawn, deeds):
    """Return the pairs with one of them changed, moved, left out or doubled."""
    deeds = list(deeds)
    at = draw.randrange(len(deeds))
    item, (word, other, entries) = deeds[at]
    new = (draw.randint(-2, 3), draw.choice(drawn.lots + drawn.bad_lots()))
    deed = draw.randrange(8)
    if deed == 0:
        del deeds[at]
    elif deed == 1:
        deeds[at] = (item, (draw.choice(["kept", "left", "traded", "gone"]), other, entries))
    elif deed == 2:
        deeds[at] = (item, (word, draw.choice([None, item, new, deeds[0][0]]), entries))
    elif deed == 3:
        deeds[at] = (item, (word, other, spoil_paper(draw, drawn, entries)))
    elif deed == 4:
        deeds[at] = (new, (word, other, entries))
    elif deed == 5:
        deeds.insert(at, deeds[draw.randrange(len(deeds))])
    elif deed == 6:
        deeds.insert(at, (new, ("kept", None, [])))
    else:
        deeds[at] = (item, ("kept", None, []))
    return deeds
