"""Keepers: the kept list of a stream of items, with a paper for each item that is left out."""

from fewserve.lots import rank, ranked
from fewserve.schemes import check_lots, first_fit, kept_list
from fewserve.spans import Span


class Keeper:
    """A scheme and the kept list of all items that were taken."""

    def __init__(self, scheme, items=()):
        self.scheme = scheme
        # Taking items in any order leads to their kept list.
        self._listed = kept_list(scheme, items)
        # The items whose lots have the rows of the span, in the order of the span.
        self._placed = list(self._listed)
        self._span = span_of(scheme, self._placed)

    def take(self, worth, lot):
        """Take an item and return the deed that tells what happened."""
        row = self.scheme.row(lot)
        item = (worth, lot)
        parts = self._span.coefficients(row)
        if parts is None:
            self._span.add(row)
            self._placed.append(item)
            self._listed = ranked(self._placed)
            return ("kept", None, [])
        entries = entries_of(self._placed, parts)
        if not entries or rank(entries[-1][1]) <= rank(item):
            return ("left", item, entries)
        last = entries[-1][1]
        index = self._placed.index(last)
        self._span.replace(index, row)
        self._placed[index] = item
        self._listed = ranked(self._placed)
        parts = self._span.coefficients(self.scheme.row(last[1]))
        return ("traded", last, entries_of(self._placed, parts))

    def take_all(self, *items):
        """Take the items in order and return the list of their deeds."""
        check_lots(self.scheme, items)
        deeds = []
        for worth, lot in items:
            deeds.append(self.take(worth, lot))
        return deeds

    def __iter__(self):
        return iter(self._listed)

    def __len__(self):
        return len(self._listed)

    def __contains__(self, x):
        return x in self._listed

    def __or__(self, other):
        return Keeper(self.scheme, self._listed + other._listed)

    @property
    def bound(self):
        """The number of items that the list never exceeds."""
        return self.scheme.width

    @property
    def room(self):
        """The bound less the number of items in the list."""
        return self.scheme.width - len(self._listed)

    def first(self, ask):
        """Return the first fit of the ask among the list, or None."""
        return first_fit(self.scheme, self._listed, ask)

    def copy(self):
        """Return a new keeper with the same scheme and the same list."""
        return Keeper(self.scheme, self._listed)

    def trial(self, items):
        """Return the list that taking the items would lead to, and take none of them."""
        return kept_list(self.scheme, self._listed + list(items))


def span_of(scheme, items):
    """Return the span of the rows of the items' lots, which are independent."""
    return Span(scheme.width, [scheme.row(lot) for _, lot in items])


def entries_of(items, parts):
    """Return the entries of the items whose coefficients are not 0, in rank order."""
    part_at = dict(zip(items, parts))
    return [(part_at[item], item) for item in ranked(items) if part_at[item] != 0]


def papers_over(scheme, listed, items):
    """Return each of the items with its only paper over the list, whose rows are independent."""
    span = span_of(scheme, listed)
    return [
        (item, entries_of(listed, span.coefficients(scheme.row(item[1]))))
        for item in items
    ]
