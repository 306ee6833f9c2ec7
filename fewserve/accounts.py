"""Accounts: keepers that also know all items that they have taken."""

from fewserve.errors import UnknownItem
from fewserve.judging import after_deed
from fewserve.keeping import Keeper, papers_over
from fewserve.lots import ranked


def settle(scheme, deeds):
    """Return each item of the deeds with its paper over the list to which they lead."""
    listed = []
    for item, deed in deeds:
        listed = after_deed(listed, item, deed)
    return papers_over(scheme, listed, ranked([item for item, _ in deeds]))


class Account:
    """A keeper's list, all items that were taken, and the deeds that were returned for them."""

    def __init__(self, scheme):
        self.scheme = scheme
        self._keeper = Keeper(scheme)
        self._deeds = []

    def take(self, worth, lot):
        """Take an item and return the deed that tells what happened."""
        deed = self._keeper.take(worth, lot)
        self._deeds.append(((worth, lot), same_deed(deed)))
        return deed

    def kept(self):
        """Return the present list, in rank order."""
        return list(self._keeper)

    def known(self):
        """Return all items that were taken, in rank order, each once."""
        return ranked([item for item, _ in self._deeds])

    def paper(self, item):
        """Return the item's paper over the present list."""
        if not any([item == known for known, _ in self._deeds]):
            raise UnknownItem(item)
        _, entries = papers_over(self.scheme, self.kept(), [item])[0]
        return entries

    def papers(self):
        """Yield each known item with its paper over the present list, in rank order."""
        for pair in papers_over(self.scheme, self.kept(), self.known()):
            yield pair

    def deeds(self):
        """Return each item that was taken with its deed, in the order of the takes."""
        return [(item, same_deed(deed)) for item, deed in self._deeds]


def same_deed(deed):
    """Return the deed with a list of entries of its own."""
    word, other, entries = deed
    return (word, other, list(entries))
