"""Boards: the first fit of every ask, kept up to date with each item."""

from fewserve.asking import profile
from fewserve.lots import rank, ranked


class Board:
    """The first fits of all asks of a scheme among the items that were taken."""

    def __init__(self, scheme, items=()):
        self.scheme = scheme
        # In the order of the profile.
        self._first_at = {ask: item for ask, item in profile(scheme, items)}
        self._least = first_fits(self._first_at)

    def take(self, worth, lot):
        """Take an item and return the asks whose first fit it has become."""
        self.scheme.check(lot)
        item = (worth, lot)
        changed = [
            ask
            for ask, first in self._first_at.items()
            if (first is None or rank(item) < rank(first)) and self.scheme.fits(lot, ask)
        ]
        for ask in changed:
            self._first_at[ask] = item
        self._least = first_fits(self._first_at)
        return changed

    def first(self, ask):
        """Return the first fit of the ask, or None."""
        self.scheme.check_ask(ask)
        return self._first_at[ask]

    def asks_of(self, item):
        """Return the asks whose first fit is the item."""
        return [ask for ask, first in self._first_at.items() if first == item]

    def __iter__(self):
        return iter(self._least)

    def __len__(self):
        return len(self._least)

    def __or__(self, other):
        # The least list of each board has all first fits that the board has.
        return Board(self.scheme, self._least + other._least)


def first_fits(first_at):
    """Return the items that are a first fit, in rank order."""
    return ranked([item for item in first_at.values() if item is not None])
