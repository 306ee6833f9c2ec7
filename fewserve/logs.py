"""Logs: lines that write lists of items, and what they can be recovered to."""

from fewserve.errors import BadText
from fewserve.lots import format_item, parse_item
from fewserve.schemes import kept_list


def format_line(items):
    """Return the line that writes a list of items."""
    return ";".join([format_item(item) for item in items])


def parse_line(line):
    """Return the list of items that a valid line writes."""
    parts = line.split(";") if line else []
    try:
        return [parse_item(part) for part in parts]
    except BadText:
        raise BadText(line)


def whole_part(text):
    """Return the log up to its last newline."""
    return text[:text.rfind("\n") + 1]


def whole_lines(text):
    """Yield the lines of the log that end with a newline."""
    for line in text.split("\n")[:-1]:
        yield line


def recover(scheme, text):
    """Return the kept list of all items of the whole lines of the log."""
    return kept_list(scheme, [item for line in whole_lines(text) for item in parse_line(line)])


def compacted(scheme, text):
    """Return the log of one line that recovers to the same list."""
    return format_line(recover(scheme, text)) + "\n"
