"""Judging papers and deeds: whether they prove what they say, whoever wrote them."""

from fewserve.lots import rank, ranked
from fewserve.residues import PRIME, combine
from fewserve.schemes import has_lot


def judge_paper(scheme, item, paper):
    """Return True if the list of entries is a paper for the item."""
    scheme.check(item[1])
    return is_paper(scheme, item, paper)


def is_paper(scheme, item, paper):
    """Return True if the entries are a paper for the item, whose lot is one of the scheme."""
    if paper == [(1, item)]:
        return True
    parts = [part for part, _ in paper]
    items = [one for _, one in paper]
    if not all([1 <= part < PRIME for part in parts]):
        return False
    if not all([has_lot(scheme, lot) for _, lot in items]) or not in_rank_order(items + [item]):
        return False
    rows = [scheme.row(lot) for _, lot in items]
    return combine(parts, rows, scheme.width) == scheme.row(item[1])


def in_rank_order(items):
    """Return True if each item ranks before the next one."""
    ranks = [rank(item) for item in items]
    return all([before < after for before, after in zip(ranks, ranks[1:])])


def is_paper_over(scheme, listed, item, paper):
    """Return True if the entries are a paper for the item over the list of items."""
    return all([one in listed for _, one in paper]) and is_paper(scheme, item, paper)


def judge_deeds(scheme, deeds):
    """Return the list to which the deeds lead, in rank order, or None if one is wrong."""
    listed = []
    for item, deed in deeds:
        if not has_lot(scheme, item[1]) or not is_right(scheme, listed, item, deed):
            return None
        listed = after_deed(listed, item, deed)
    return ranked(listed)


def is_right(scheme, listed, item, deed):
    """Return True if the deed is right for the item, whose lot is one of the scheme."""
    word, other, paper = deed
    if word == "kept":
        return other is None and paper == [] and item not in listed
    if word == "left":
        return other == item and is_paper_over(scheme, listed, item, paper)
    if word != "traded" or other not in listed or item in listed or rank(item) >= rank(other):
        return False
    return is_paper_over(scheme, after_deed(listed, item, deed), other, paper)


def after_deed(listed, item, deed):
    """Return the list to which the deed leads from the list."""
    word, other, _ = deed
    if word == "kept":
        return listed + [item]
    if word == "traded":
        return [one for one in listed if one != other] + [item]
    return listed
