"""All errors that the program raises.

The messages never contain the arguments: Python refuses to write integers of some thousand
digits, and that would raise another error than the one that is meant.
"""


class ServeError(ValueError):
    """The base class of all errors of the program."""


class NoInverse(ServeError):
    """The number is 0 modulo 97."""

    def __init__(self, number):
        super().__init__("the number is 0 modulo 97 and has no inverse")
        self.number = number


class BadTable(ServeError):
    """What was passed is not a table, a square or a web."""


class BadSize(ServeError):
    """The size or the count is out of its range."""

    def __init__(self, size):
        super().__init__("the size is out of its range")
        self.size = size


class BadLot(ServeError):
    """The tuple is not a lot of the scheme."""

    def __init__(self, lot):
        super().__init__("the tuple is not a lot that is possible here")
        self.lot = lot


class BadAsk(ServeError):
    """The tuple is not an ask of the scheme."""

    def __init__(self, ask):
        super().__init__("the tuple is not an ask that is possible here")
        self.ask = ask


class BadText(ServeError):
    """The line or the text is not a valid written form."""

    def __init__(self, line):
        super().__init__("the text is not valid")
        self.line = line


class BadWedge(ServeError):
    """The numbers of a wedge do not fit together, or two wedges do not."""


class DependentRow(ServeError):
    """The row cannot stand in the span at this place."""


class UnknownItem(ServeError):
    """The item was never taken, or is not listed."""

    def __init__(self, item):
        super().__init__("the item is not known")
        self.item = item


class BadWeb(ServeError):
    """What was passed is not a web, or not a way of the web."""


class BadDeed(ServeError):
    """There is no such house or letter, or the house cannot do this now."""

    def __init__(self, deed):
        super().__init__("this cannot be done")
        self.deed = deed
