"""Numbers and rows modulo 97, and which rows are sums of others."""

from fewserve.errors import NoInverse

PRIME = 97


def inverse(number):
    """Return the residue whose product with the number is 1 modulo 97."""
    residue = number % PRIME
    if residue == 0:
        raise NoInverse(number)
    # Any number that is not 0 has the power PRIME - 1 equal to 1 (Fermat).
    power = 1
    for _ in range(PRIME - 2):
        power = power * residue % PRIME
    return power


def dot(first, second):
    """Return the sum of the products of two equally long rows."""
    return sum([a * b for a, b in zip(first, second)]) % PRIME


def combine(coefficients, rows, width):
    """Return the sum of the rows, each times its coefficient."""
    return [dot(coefficients, [row[at] for row in rows]) for at in range(width)]


def product_of(numbers):
    """Return the product of the integers."""
    product = 1
    for number in numbers:
        product = product * number
    return product


def unit_row(column, columns):
    """Return the row with 1 in the column and 0 in all others."""
    return [1 if at == column else 0 for at in range(columns)]


def leading_column(row):
    """Return the first column in which the row of residues is not 0, or None."""
    for column, number in enumerate(row):
        if number != 0:
            return column
    return None


def reduced(row, basis):
    """Return the row's residues after subtracting rows of the basis until their columns are 0.

    The basis is a list of pairs of a column and a row with 1 in this column and with 0 in the
    columns of all pairs before it. So no subtraction spoils a column that is 0 already.
    """
    rest = [number % PRIME for number in row]
    for column, other in basis:
        factor = rest[column]
        if factor != 0:
            rest = [(a - factor * b) % PRIME for a, b in zip(rest, other)]
    return rest


def scaled(row, column):
    """Return the multiple of the row that has 1 in the column."""
    factor = inverse(row[column])
    return [number * factor % PRIME for number in row]


def independent_indexes(rows):
    """Return the indexes of the rows that are not sums of the rows before them."""
    basis = []
    found = []
    for index, row in enumerate(rows):
        if len(basis) == len(row):
            # As many independent rows as columns: every further row is a sum of them.
            break
        rest = reduced(row, basis)
        column = leading_column(rest)
        if column is not None:
            basis.append((column, scaled(rest, column)))
            found.append(index)
    return found


def independent(rows):
    """Return True if no row is a sum of the rows before it."""
    return len(independent_indexes(rows)) == len(rows)


def relation(rows):
    """Return the first relation between the rows, or None if they are independent."""
    many = len(rows)
    basis = []
    for index, row in enumerate(rows):
        # The unit row behind the row keeps account of what was subtracted from it.
        rest = reduced(row + unit_row(index, many), basis)
        column = leading_column(rest[:len(row)])
        if column is None:
            return rest[len(row):]
        basis.append((column, scaled(rest, column)))
    return None
