"""Houses: lists that are kept in several places, with logs that outlive a crash."""

from fewserve.errors import BadDeed, BadText
from fewserve.logs import compacted, format_line, recover, whole_part
from fewserve.lots import MOST_WORTH, format_item
from fewserve.schemes import first_fit, kept_list


class House:
    """What one house has: whether it is up, its list, its log and how much of it is settled."""

    def __init__(self):
        self.up = True
        self.listed = []
        self.text = ""
        self.settled = 0


class Houses:
    """Houses that take items, send each other their lists, crash and rise."""

    def __init__(self, scheme, count):
        self.scheme = scheme
        self._houses = [House() for _ in range(count)]
        # The list in each letter that was sent.
        self._sent = []

    def __len__(self):
        return len(self._houses)

    @property
    def letters(self):
        """The number of letters that were sent."""
        return len(self._sent)

    def take(self, house, worth, lot):
        """Write an item to a house."""
        place = self._up_house(house)
        self.scheme.check(lot)
        item = (worth, lot)
        if abs(worth) > MOST_WORTH:
            raise BadText(format_item(item))
        self._write(place, [item])

    def send(self, house):
        """Send a letter with the list of a house and return its number."""
        self._sent.append(self.kept(house))
        return len(self._sent) - 1

    def deliver(self, house, letter):
        """Write the list of a letter to a house."""
        place = self._up_house(house)
        if not 0 <= letter < len(self._sent):
            raise BadDeed(letter)
        self._write(place, self._sent[letter])

    def settle(self, house):
        """Make the whole log of a house settled."""
        place = self._up_house(house)
        place.settled = len(place.text)

    def compact(self, house):
        """Replace the log of a house by its compacted form, all of it settled."""
        place = self._up_house(house)
        place.text = compacted(self.scheme, place.text)
        place.settled = len(place.text)

    def crash(self, house, lost=0):
        """Take a house down; its log loses characters at its end, but no settled ones."""
        place = self._up_house(house)
        place.text = place.text[:max(place.settled, len(place.text) - lost)]
        place.up = False

    def rise(self, house):
        """Take a house up again, with the list that its log recovers to."""
        place = self._house(house)
        if place.up:
            raise BadDeed(house)
        place.text = whole_part(place.text)
        place.listed = recover(self.scheme, place.text)
        place.up = True

    def exchange(self):
        """Deliver a letter of every house that is up to every house that is up."""
        present = [house for house, place in enumerate(self._houses) if place.up]
        letters = [self.send(house) for house in present]
        for house in present:
            for letter in letters:
                self.deliver(house, letter)
        return letters

    def kept(self, house):
        """Return the list of a house, in rank order."""
        return list(self._up_house(house).listed)

    def answer(self, house, ask):
        """Return the first fit of the ask among the list of a house, or None."""
        return first_fit(self.scheme, self._up_house(house).listed, ask)

    def log(self, house):
        """Return the log of a house, which may be down."""
        return self._house(house).text

    def is_up(self, house):
        """Return True if the house is up."""
        return self._house(house).up

    def _house(self, house):
        """Return what the house of this number has."""
        if not 0 <= house < len(self._houses):
            raise BadDeed(house)
        return self._houses[house]

    def _up_house(self, house):
        """Return what the house of this number has; it must be up."""
        place = self._house(house)
        if not place.up:
            raise BadDeed(house)
        return place

    def _write(self, place, items):
        """Write the items to a house: to its log, and to its list."""
        place.text = place.text + format_line(items) + "\n"
        place.listed = kept_list(self.scheme, place.listed + items)
