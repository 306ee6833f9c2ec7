"""Answers to asks, with certificates that everything dearer does not fit."""

from fewserve.clashes import clash, judge_clash
from fewserve.judging import is_paper_over
from fewserve.keeping import papers_over
from fewserve.lots import choices, rank
from fewserve.schemes import check_lots, first_fit, first_free, has_ask, has_lot, kept_list


def profile(scheme, items):
    """Return each ask of the scheme with its first fit among the items, or None."""
    # The kept list has the same first fits, and it is short.
    listed = kept_list(scheme, items)
    # An operator of boards comes here, and none may reach a generator such as all_asks.
    return [
        (ask, first_free(scheme.table, listed, ask))
        for size in range(scheme.spare + 1)
        for ask in choices(scheme.table.things, size)
        if has_ask(scheme, ask)
    ]


class Asker:
    """Answers asks about some items, and counts its answers."""

    def __init__(self, scheme, items):
        self._scheme = scheme
        self._listed = kept_list(scheme, items)
        self._answers = 0

    def __call__(self, ask):
        """Return the first fit of the ask among the items, or None."""
        found = first_fit(self._scheme, self._listed, ask)
        self._answers = self._answers + 1
        return found

    @property
    def asked(self):
        """The number of calls that have returned."""
        return self._answers


def answer(account, ask):
    """Return the first fit among all items of the account, and why no dearer item fits."""
    scheme = account.scheme
    listed = account.kept()
    first = first_fit(scheme, listed, ask)
    dearer = dearer_items(account.known(), first)
    clashes = [(item, clash(scheme, item[1], ask)) for item in dearer if item in listed]
    others = [item for item in dearer if item not in listed]
    return (first, clashes, papers_over(scheme, listed, others))


def dearer_items(items, first):
    """Return the items that rank before the first fit, or all of them if there is none."""
    return [item for item in items if first is None or rank(item) < rank(first)]


def judge_answer(scheme, items, ask, told):
    """Return True if the answer proves its first value to be the first fit of the ask."""
    scheme.check_ask(ask)
    check_lots(scheme, items)
    first, clashes, proofs = told
    if first is not None and (first not in items or not scheme.fits(first[1], ask)):
        return False
    clashing = [item for item, _ in clashes]
    covered = clashing + [item for item, _ in proofs]
    return (
        all([has_lot(scheme, lot) for _, lot in covered])
        and all([judge_clash(scheme, lot, ask, numbers) for (_, lot), numbers in clashes])
        and all([is_paper_over(scheme, clashing, item, paper) for item, paper in proofs])
        and all([item in covered for item in dearer_items(items, first)])
    )
