"""Papers and answers as text."""

from fewserve.errors import BadText
from fewserve.lots import format_item, parse_item, read_number, written_number
from fewserve.residues import PRIME


def format_paper(paper):
    """Return the written form of a paper."""
    if not paper:
        return "0"
    return " + ".join([written_number(part) + "*" + format_item(item) for part, item in paper])


def parse_paper(text):
    """Return the paper that a text writes."""
    if text == "0":
        return []
    return [read_entry(entry, text) for entry in text.split(" + ")]


def read_entry(entry, text):
    """Return the entry that a part of the text writes."""
    word, _, name = entry.partition("*")
    part = read_number(word, 2)
    if part is None or not 1 <= part < PRIME:
        raise BadText(text)
    return (part, read_item(name, text))


def read_item(name, line):
    """Return the item that a part of the line writes."""
    try:
        return parse_item(name)
    except BadText:
        raise BadText(line)


def answer_lines(told):
    """Return the lines that write an answer with its certificate."""
    first, clashes, proofs = told
    return (
        ["answer " + format_first(first)]
        + [f"clash {format_numbers(numbers)} of {format_item(item)}" for item, numbers in clashes]
        + [f"paper {format_paper(paper)} of {format_item(item)}" for item, paper in proofs]
    )


def format_first(first):
    """Return the written form of an item, or of no item."""
    return "none" if first is None else format_item(first)


def format_numbers(numbers):
    """Return the integers, separated by single spaces."""
    return " ".join([written_number(number) for number in numbers])


def read_answer(lines):
    """Return the answer that the lines write."""
    if not lines:
        raise BadText("")
    first = read_first(lines[0])
    clashes = []
    proofs = []
    for line in lines[1:]:
        # No clash line is valid after a paper line.
        if line.startswith("clash ") and not proofs:
            clashes.append(read_clash(line))
        else:
            proofs.append(read_proof(line))
    return (first, clashes, proofs)


def read_first(line):
    """Return the item or None that an answer line writes."""
    name = rest_after("answer ", line)
    return None if name == "none" else read_item(name, line)


def read_clash(line):
    """Return the item and the numbers that a clash line writes."""
    body, _, name = rest_after("clash ", line).partition(" of ")
    numbers = [read_number(word, 2) for word in body.split(" ")]
    if not all([number is not None and 0 <= number < PRIME for number in numbers]):
        raise BadText(line)
    return (read_item(name, line), numbers)


def read_proof(line):
    """Return the item and the paper that a paper line writes."""
    body, _, name = rest_after("paper ", line).partition(" of ")
    try:
        return (parse_item(name), parse_paper(body))
    except BadText:
        raise BadText(line)


def rest_after(word, line):
    """Return what stands behind the word with which the line begins."""
    if not line.startswith(word):
        raise BadText(line)
    return line[len(word):]
