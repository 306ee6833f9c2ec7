"""Way books: certificates that no free way of so many places is worth more."""

from fewserve.judging import is_paper_over
from fewserve.keeping import papers_over
from fewserve.lots import ranked
from fewserve.schemes import Scheme, has_lot
from fewserve.ways import check_ways, grown_items, way_lists


def way_book(web, table, count):
    """Return the stages of the book: for each place what is listed, and papers for the rest."""
    lists = way_lists(web, table, count)
    book = []
    for at, stage in enumerate(lists):
        scheme = Scheme(table, at + 1)
        grown = grown_items(web, lists[:at])
        book.append([book_pair(scheme, listed, items) for listed, items in zip(stage, grown)])
    return book


def book_pair(scheme, listed, items):
    """Return the list of a place and the papers of the other items that are grown into it."""
    others = [item for item in ranked(items) if item not in listed]
    return (listed, papers_over(scheme, listed, others))


def judge_way_book(web, table, count, book):
    """Return whether the book is right, and the greatest worth that its last stage lists."""
    check_ways(web, table, count, 1)
    if not is_right_book(web, table, count, book):
        return (False, None)
    worths = [worth for listed, _ in book[-1] for worth, _ in listed]
    return (True, max(worths, default=None))


def is_right_book(web, table, count, book):
    """Return True if the book accounts for every item that is grown from what it lists."""
    if len(book) != count or any([len(stage) != web.places for stage in book]):
        return False
    before = []
    for size, stage in enumerate(book, start=1):
        scheme = Scheme(table, size)
        lists = [listed for listed, _ in stage]
        if not all([has_lot(scheme, lot) for listed in lists for _, lot in listed]):
            return False
        # What was listed before has lots of its schemes, so it can grow.
        grown = grown_items(web, before)
        if not all([covers(scheme, pair, items) for pair, items in zip(stage, grown)]):
            return False
        before = before + [lists]
    return True


def covers(scheme, pair, items):
    """Return True if each item is listed at the place, or has a paper over what is listed there."""
    listed, proofs = pair
    papers_of = {}
    for item, paper in proofs:
        papers_of.setdefault(item, []).append(paper)
    others = [item for item in ranked(items) if item not in listed]
    return all([has_paper(scheme, listed, item, papers_of.get(item, [])) for item in others])


def has_paper(scheme, listed, item, proofs):
    """Return True if one of the lists of entries is a paper for the item over the list."""
    return any([is_paper_over(scheme, listed, item, entries) for entries in proofs])
