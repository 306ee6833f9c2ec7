"""Things, lots, asks and items: their order and their written forms."""

from fewserve.errors import BadText

MOST_THINGS = 12
MOST_WORTH = 1000000
# As many digits as the greatest worth has.
WORTH_DIGITS = 7


def choices(count, size):
    """Return all ascending tuples of size unlike integers below count, in ascending order."""
    if size < 0:
        return []
    found = [()]
    for _ in range(size):
        found = [
            chosen + (k,)
            for chosen in found
            for k in range(chosen[-1] + 1 if chosen else 0, count)
        ]
    return found


def all_asks(count, most):
    """Yield all ascending tuples of at most that many unlike integers below count."""
    for size in range(most + 1):
        for ask in choices(count, size):
            yield ask


def is_lot(lot, count):
    """Return True if the tuple ascends strictly and holds only integers from 0 to count - 1."""
    before = -1
    for thing in lot:
        if thing <= before or thing >= count:
            return False
        before = thing
    return True


def apart(lot, other):
    """Return True if the two tuples have no common thing."""
    return not any([thing in other for thing in lot])


def joined(lot, other):
    """Return the lot of all things of two lots, or None if they have a common thing."""
    if not apart(lot, other):
        return None
    return tuple(sorted(lot + other))


def without(lot, other):
    """Return the things of the lot that are not in the other tuple, in the lot's order."""
    return tuple([thing for thing in lot if thing not in other])


def rank(item):
    """Return the pair that is less for an item that ranks before another one."""
    worth, lot = item
    return (-worth, lot)


def ranked(items):
    """Return the items in rank order, each once."""
    found = []
    for item in sorted(items, key=rank):
        if not found or found[-1] != item:
            found.append(item)
    return found


def format_item(item):
    """Return the written form of an item."""
    worth, lot = item
    return written_number(worth) + ":" + "".join([f" {thing}" for thing in lot])


def written_number(number):
    """Return the integer in decimal.

    Python refuses to write integers of some thousand digits, so they are written in blocks.
    """
    rest = abs(number)
    blocks = []
    while rest >= 10 ** 64:
        blocks.append(str(rest % 10 ** 64).zfill(64))
        rest = rest // 10 ** 64
    blocks.append(str(rest))
    return ("-" if number < 0 else "") + "".join(reversed(blocks))


def parse_item(line):
    """Return the item that a valid line writes."""
    head, _, tail = line.partition(":")
    words = tail[1:].split(" ") if tail else []
    worth = read_number(head, WORTH_DIGITS)
    lot = tuple([read_number(word, WORTH_DIGITS) for word in words])
    if worth is None or None in lot:
        raise BadText(line)
    # Only one line writes an item, so comparing refuses every other spelling.
    if abs(worth) > MOST_WORTH or not is_lot(lot, MOST_THINGS) or format_item((worth, lot)) != line:
        raise BadText(line)
    return (worth, lot)


def read_number(word, digits):
    """Return the integer that the word writes with at most so many digits, or None."""
    tail = word[1:] if word.startswith("-") else word
    # The length comes first: Python refuses to read integers of some thousand digits.
    if len(tail) > digits or not tail.isdecimal() or str(int(word)) != word:
        return None
    return int(word)


def format_items(items):
    """Return the written form of a list of items: a line for each."""
    return "".join([format_item(item) + "\n" for item in items])


def parse_items(text):
    """Return the list of items that a text of valid lines writes."""
    lines = text.split("\n")
    if lines[-1] != "":
        raise BadText(lines[-1])
    return [parse_item(line) for line in lines[:-1]]
