"""The desk: it takes items and answers asks, a line of text for a line of text."""

from fewserve.accounts import Account
from fewserve.asking import answer, judge_answer
from fewserve.deskwords import answer_lines, format_first, format_paper, read_answer
from fewserve.errors import BadAsk, BadLot, BadText, UnknownItem
from fewserve.least import least_list
from fewserve.logs import whole_lines
from fewserve.lots import format_item, parse_item, read_number
from fewserve.schemes import first_fit

THING_DIGITS = 9


def read_things(text):
    """Return the things that a text writes, which may be none."""
    things = tuple([read_number(word, THING_DIGITS) for word in text.split(" ")]) if text else ()
    if None in things:
        raise BadText(text)
    return things


def tell_take(account, rest):
    """Take the item that is written and tell the deed."""
    worth, lot = parse_item(rest)
    word, last, paper = account.take(worth, lot)
    if word == "kept":
        return word
    if word == "left":
        return f"left = {format_paper(paper)}"
    return f"traded {format_item(last)} = {format_paper(paper)}"


def tell_ask(account, rest):
    """Tell the first fit of the ask."""
    return format_first(first_fit(account.scheme, account.kept(), read_things(rest)))


def tell_why(account, rest):
    """Tell the first fit of the ask with its certificate."""
    return "; ".join(answer_lines(answer(account, read_things(rest))))


def tell_judge(account, rest):
    """Tell whether an answer with its certificate is right for an ask."""
    # If nothing is there to be judged, the one line is empty and not valid.
    things, _, lines = rest.partition("; ")
    ask = read_things(things)
    told = read_answer(lines.split("; "))
    return "right" if judge_answer(account.scheme, account.known(), ask, told) else "wrong"


def tell_paper(account, rest):
    """Tell the paper of an item."""
    return format_paper(account.paper(parse_item(rest)))


def tell_list(account, rest):
    """Tell the list of the desk."""
    return told_items(account.kept(), rest)


def tell_least(account, rest):
    """Tell the least list of the desk's items."""
    return told_items(least_list(account.scheme, account.kept()), rest)


def told_items(items, rest):
    """Return how many items there are, and all of them; nothing may stand behind the command."""
    if rest:
        raise BadText(rest)
    return "; ".join([f"{len(items)} items"] + [format_item(item) for item in items])


COMMANDS = {
    "take": tell_take,
    "ask": tell_ask,
    "why": tell_why,
    "judge": tell_judge,
    "paper": tell_paper,
    "list": tell_list,
    "least": tell_least,
}


def tell(account, line):
    """Return the answer to a line, or raise the error that the line is answered with."""
    word, space, rest = line.partition(" ")
    if word not in COMMANDS or space and not rest:
        raise BadText(line)
    command = COMMANDS[word]
    return command(account, rest)


class Desk:
    """An account that is asked by lines of text, and the lines that brought its items."""

    def __init__(self, scheme):
        self.scheme = scheme
        self._account = Account(scheme)
        # The take lines that were answered without an error.
        self._lines = []

    @classmethod
    def again(cls, scheme, journal):
        """Return a new desk that has run the lines of the journal."""
        desk = cls(scheme)
        for line in whole_lines(journal):
            desk.run(line)
        return desk

    def run(self, line):
        """Return the answer to a line."""
        try:
            told = tell(self._account, line)
        except BadText:
            return "error BadText"
        except BadLot:
            return "error BadLot"
        except BadAsk:
            return "error BadAsk"
        except UnknownItem:
            return "error UnknownItem"
        if line.startswith("take "):
            self._lines.append(line)
        return told

    def run_text(self, text):
        """Run the lines of a text in order and yield their answers."""
        for line in whole_lines(text):
            yield self.run(line)

    @property
    def journal(self):
        """The take lines that were answered without an error, as text."""
        return "".join([line + "\n" for line in self._lines])
