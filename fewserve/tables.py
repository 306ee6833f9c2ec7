"""Tables: a row of residues for each thing."""

from fewserve.errors import BadTable
from fewserve.residues import PRIME, independent


class Table:
    """The rows of some things. A table never changes."""

    MOST_ROWS = 12
    MOST_COLUMNS = 6

    def __init__(self, rows, columns):
        check_shape(len(rows), columns)
        if any([len(row) != columns for row in rows]):
            raise BadTable("a row does not have a number for each column")
        self.things = len(rows)
        self.columns = columns
        self._rows = [[number % PRIME for number in row] for row in rows]

    @classmethod
    def points(cls, numbers, columns):
        """Return the table whose rows are the powers of the numbers."""
        check_shape(len(numbers), columns)
        if len({number % PRIME for number in numbers}) < len(numbers):
            raise BadTable("two of the numbers are equal modulo 97")
        return cls([powers(number, columns) for number in numbers], columns)

    @classmethod
    def plain(cls, things, columns):
        """Return the table of points of 1, 2, 3, and so on."""
        check_shape(things, columns)
        return cls.points(list(range(1, things + 1)), columns)

    def row(self, thing):
        """Return the row of a thing."""
        return list(self._rows[thing])

    def rows_of(self, things):
        """Return the rows of the things, in their order."""
        return [self.row(thing) for thing in things]

    def free(self, things):
        """Return True if the rows of the things are independent."""
        return independent(self.rows_of(things))

    def show(self):
        """Return the table as text: a line for each thing."""
        return "".join([shown_row(thing, row) for thing, row in enumerate(self._rows)])


def check_shape(things, columns):
    """Raise BadTable if no table has so many things or so many columns."""
    if things > Table.MOST_ROWS:
        raise BadTable("more things than a table can have")
    if not 0 <= columns <= Table.MOST_COLUMNS:
        raise BadTable("no table has this number of columns")


def powers(number, columns):
    """Return the first powers of the number, beginning with the power 0."""
    row = []
    power = 1
    for _ in range(columns):
        row.append(power)
        power = power * number % PRIME
    return row


def shown_row(thing, row):
    """Return the line that shows a thing and its row."""
    return f"{thing:>2}:" + "".join([f" {number:>2}" for number in row]) + "\n"
