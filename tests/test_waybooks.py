"""Points [113] and [120] to [122]."""

import random

from fewserve.tables import Table
from fewserve.waybooks import judge_way_book, way_book
from fewserve.ways import best_way, way_lists
from fewserve.webs import Web
from tests import slow
from tests.test_ways import Drawing, errors_of_counts


def copy_of(book):
    return [[(list(listed), [(item, list(paper)) for item, paper in papers]) for listed, papers in stage] for stage in book]


def small():
    """Return a web and a table in which the second stage needs papers."""
    return Web(3, [(0, 2, 5), (1, 2, 3), (0, 1, 1)]), Table.plain(3, 2)


SMALL_BOOK = [
    [([(0, (0,))], []), ([(0, (1,))], []), ([(0, (2,))], [])],
    [([], []), ([(1, (0, 1))], []), ([(5, (0, 2))], [((3, (1, 2)), [(49, (5, (0, 2)))])])],
]


def slow_paper(table, size, item, entries):
    """Return whether the entries are a paper for the item, by the definition in [47]."""
    if entries == [(1, item)]:
        return True
    places = [(-worth, lot) for _, (worth, lot) in entries] + [(-item[0], item[1])]
    if any(not first < second for first, second in zip(places, places[1:])):
        return False
    total = [0] * len(slow.minors(table.rows_of(item[1]), table.columns))
    for number, (_, lot) in entries:
        right = len(lot) == size and all(thing in range(table.things) for thing in lot)
        if number not in range(1, 97) or not right or list(lot) != sorted(set(lot)):
            return False
        row = slow.minors(table.rows_of(lot), table.columns)
        total = [(a + number * b) % 97 for a, b in zip(total, row)]
    return total == slow.minors(table.rows_of(item[1]), table.columns)


def slow_judge(drawn, count, book):
    """Judge a book by [121], one condition after the other."""
    things = range(drawn.places)
    if len(book) != count or any(len(stage) != drawn.places for stage in book):
        return (False, None)
    for at, stage in enumerate(book):
        for listed, _ in stage:
            for _, lot in listed:
                if len(lot) != at + 1 or list(lot) != sorted(set(lot)) or not set(lot) <= set(things):
                    return (False, None)
    for at, stage in enumerate(book):
        for place, (listed, papers) in enumerate(stage):
            grown = [(0, (place,))] if at == 0 else []
            for u, v, worth in drawn.steps if at else []:
                if v == place:
                    for more, lot in book[at - 1][u][0]:
                        if place not in lot:
                            grown.append((worth + more, tuple(sorted(lot + (place,)))))
            for item in grown:
                right = item in listed
                for other, entries in papers:
                    over = all(one in listed for _, one in entries)
                    right = right or other == item and over and slow_paper(drawn.table, at + 1, item, entries)
                if not right:
                    return (False, None)
    worths = [worth for listed, _ in book[-1] for worth, _ in listed]
    return (True, max(worths) if worths else None)


def spoil(draw, book):
    """Return the book with one drawn change."""
    book = copy_of(book)
    kind = draw.randrange(9)
    stage = draw.choice(book) if book else []
    if kind == 0 or not stage:
        return book[:-1] if draw.randrange(2) else book + [[([], [])] * len(book[0])] if book else [[]]
    place = draw.randrange(len(stage))
    listed, papers = stage[place]
    lot = draw.choice([(), (0,), (0, 1), (1, 0), (1, 1), (0, 1, 2), (99,), (-1,), (0, 99)])
    if kind == 1:
        stage.pop(place) if draw.randrange(2) else stage.append(([], []))
    elif kind == 2 and listed:
        listed.pop(draw.randrange(len(listed)))
    elif kind == 3:
        listed.insert(draw.randint(0, len(listed)), (draw.randint(-3, 3), lot))
    elif kind == 4 and papers:
        papers.pop(draw.randrange(len(papers)))
    elif kind == 5:
        papers.insert(draw.randint(0, len(papers)), ((draw.randint(-3, 3), lot), [(draw.randint(-1, 98), (1, lot))]))
    elif kind == 6 and papers:
        at = draw.randrange(len(papers))
        papers[at] = ((papers[at][0][0] + draw.randint(0, 1), papers[at][0][1]), papers[at][1])
    elif kind == 7 and papers:
        entries = draw.choice(papers)[1]
        if entries:
            at = draw.randrange(len(entries))
            number, item = entries[at]
            entries[at] = (number + draw.choice([0, 1, -97, 97]), draw.choice([item, (1, lot)]))
    elif kind == 8 and papers:
        draw.choice(papers)[1].insert(0, (draw.randint(0, 3), draw.choice([(1, lot)] + listed)))
    return book


class Books(slow.Case):
    def test_ordinary(self):
        web, table = small()
        self.assertEqual(way_book(web, table, 2), SMALL_BOOK)
        self.assertEqual(way_book(web, table, 1), SMALL_BOOK[:1])
        self.assertEqual(judge_way_book(web, table, 2, SMALL_BOOK), (True, 5))
        self.assertEqual(judge_way_book(web, table, 1, SMALL_BOOK[:1]), (True, 0))

    def test_rows_of_zeros(self):
        table = Table([[0, 0], [1, 0], [2, 0]], 2)
        web = Web(3, [(0, 1, 1), (1, 2, 1)])
        told = [
            [([], [((0, (0,)), [])]), ([(0, (1,))], []), ([(0, (2,))], [])],
            [([], []), ([], []), ([], [((1, (1, 2)), [])])],
        ]
        self.assertEqual(way_book(web, table, 2), told)
        self.assertEqual(judge_way_book(web, table, 2, told), (True, None))

    def test_no_places(self):
        nowhere, table = Web(0, []), Table([], 2)
        self.assertEqual(way_book(nowhere, table, 2), [[], []])
        self.assertEqual(judge_way_book(nowhere, table, 2, [[], []]), (True, None))
        self.assertEqual(judge_way_book(nowhere, table, 2, [[]]), (False, None))
        self.assertEqual(judge_way_book(nowhere, table, 1, [[([], [])]]), (False, None))

    def test_wrong(self):
        errors_of_counts(self, way_book, 1)
        errors_of_counts(self, lambda web, table, count: judge_way_book(web, table, count, []), 1)

    def test_drawn(self):
        draw = random.Random(210)
        papers_seen = 0
        for _ in range(60):
            drawn = Drawing(draw, 5)
            for count in drawn.counts:
                book = way_book(drawn.web, drawn.table, count)
                lists = way_lists(drawn.web, drawn.table, count)
                self.assertEqual([[listed for listed, _ in stage] for stage in book], lists)
                for at, stage in enumerate(book):
                    for place, (listed, papers) in enumerate(stage):
                        grown = [(0, (place,))] if at == 0 else []
                        for u, v, worth in drawn.steps if at else []:
                            for more, lot in lists[at - 1][u] if v == place else []:
                                if place not in lot:
                                    grown.append((worth + more, tuple(sorted(lot + (place,)))))
                        others = [item for item in slow.rank_order(grown) if item not in listed]
                        self.assertEqual([item for item, _ in papers], others)
                        for item, entries in papers:
                            papers_seen += 1
                            self.assertTrue(slow_paper(drawn.table, at + 1, item, entries))
                            self.assertTrue(all(one in listed for _, one in entries))
                best = best_way(drawn.web, drawn.table, count)
                before = copy_of(book)
                told = judge_way_book(drawn.web, drawn.table, count, book)
                self.assertEqual(told, (True, best[0] if best else None))
                self.assertEqual(book, before)
        self.assertGreater(papers_seen, 300)

    def test_returned_lists_are_new(self):
        web, table = small()
        book = way_book(web, table, 2)
        book[1][2][0].clear()
        book[1][2][1][0][1].clear()
        book[0].clear()
        self.assertEqual(way_book(web, table, 2), SMALL_BOOK)


class Judging(slow.Case):
    def judged(self, change):
        """Judge the small book after a change."""
        web, table = small()
        book = copy_of(SMALL_BOOK)
        change(book)
        before = copy_of(book)
        told = judge_way_book(web, table, 2, book)
        self.assertEqual(book, before)
        return told

    def test_stages_and_pairs(self):
        for change in (
            lambda book: book.pop(), lambda book: book.append(book[1]), lambda book: book.clear(),
            lambda book: book[0].pop(), lambda book: book[1].append(([], [])), lambda book: book[1].clear(),
            lambda book: book.reverse(),
        ):
            self.assertEqual(self.judged(change), (False, None))

    def test_lots_of_other_schemes(self):
        for at, lot in ((0, ()), (0, (0, 1)), (0, (3,)), (0, (-1,)), (1, (0,)), (1, (1, 0)), (1, (1, 1)), (1, (0, 3)), (1, ())):
            for place in range(3):
                told = self.judged(lambda book: book[at][place][0].append((-99, lot)))
                self.assertEqual(told, (False, None))
        self.assertEqual(self.judged(lambda book: book[1][0][0].append((-99, (1, 2)))), (True, 5))
        self.assertEqual(self.judged(lambda book: book[1][0][0].append((99, (1, 2)))), (True, 99))

    def test_left_out(self):
        for change in (
            lambda book: book[0][0][0].clear(),
            lambda book: book[1][1][0].clear(),
            lambda book: book[1][2][0].clear(),
            lambda book: book[1][2][1].clear(),
        ):
            self.assertEqual(self.judged(change), (False, None))

    def test_listed_instead_of_a_paper(self):
        def change(book):
            book[1][2] = ([(3, (1, 2)), (5, (0, 2))], [])
        self.assertEqual(self.judged(change), (True, 5))

    def test_spoilt_papers(self):
        item, first = (3, (1, 2)), (5, (0, 2))
        for papers, right in (
            ([(item, [(49, first)])], True),
            ([(item, [(48, first)])], False),
            ([(item, [(49 + 97, first)])], False),
            ([(item, [(-48, first)])], False),
            ([(item, [(0, first)])], False),
            ([(item, [])], False),
            ([(item, [(1, item)])], False),
            ([((4, (1, 2)), [(49, first)])], False),
            ([(item, [(49, (6, (0, 2)))])], False),
            ([(item, [(49, first), (49, first)])], False),
            ([(item, [(48, first)]), (item, [(49, first)])], True),
            ([(item, [(49, first)]), (item, [(1, (9, (2, 0)))])], True),
            ([((9, (7, 7)), [(500, (1, (5, 4)))]), (item, [(49, first)]), ((1, ()), [])], True),
        ):
            def change(book):
                book[1][2] = ([first], papers)
            self.assertEqual(self.judged(change), (True, 5) if right else (False, None))

    def test_a_paper_over_items_of_another_place(self):
        # The row of the lot 0, 1 spans all lots of two things, but it is listed at place 1.
        def change(book):
            book[1][2] = ([], [((5, (0, 2)), [(2, (7, (0, 1)))]), ((3, (1, 2)), [(1, (7, (0, 1)))])])
            book[1][1] = ([(1, (0, 1)), (7, (0, 1))], [])
        self.assertEqual(self.judged(change), (False, None))

        def listed(book):
            change(book)
            book[1][2][0].append((7, (0, 1)))
        self.assertEqual(self.judged(listed), (True, 7))

    def test_an_empty_last_stage(self):
        lonely = Web(2, [])
        book = [[([(0, (0,))], []), ([(0, (1,))], [])], [([], []), ([], [])]]
        self.assertEqual(judge_way_book(lonely, Table.plain(2, 2), 2, book), (True, None))

    def test_spoilt_books(self):
        draw = random.Random(211)
        right = wrong = 0
        for _ in range(400):
            drawn = Drawing(draw, 4, 3)
            count = draw.choice(drawn.counts)
            book = way_book(drawn.web, drawn.table, count)
            for _ in range(draw.randint(1, 3)):
                book = spoil(draw, book)
            told = slow_judge(drawn, count, book)
            before = copy_of(book)
            self.assertEqual(judge_way_book(drawn.web, drawn.table, count, book), told)
            self.assertEqual(book, before)
            if told[0]:
                right += 1
                best = best_way(drawn.web, drawn.table, count)
                self.assertTrue(best is None or told[1] is not None and best[0] <= told[1])
            else:
                wrong += 1
        self.assertGreater(right, 80)
        self.assertGreater(wrong, 80)
