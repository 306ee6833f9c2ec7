"""Orders and their signs, and determinants modulo 97."""

from fewserve.errors import BadTable
from fewserve.residues import PRIME, inverse


def order_sign(order):
    """Return 1 if an even number of pairs of positions is turned, otherwise -1."""
    turned = [
        at
        for at, number in enumerate(order)
        for later in order[at + 1:]
        if number > later
    ]
    return 1 if len(turned) % 2 == 0 else -1


def signed_orders(count):
    """Return all orders of that many things in ascending order, each with its sign."""
    orders = [()]
    for _ in range(count):
        orders = [order + (k,) for order in orders for k in range(count) if k not in order]
    return [(order, order_sign(order)) for order in orders]


def check_square(rows):
    """Raise BadTable if some row does not have as many numbers as there are rows."""
    if any([len(row) != len(rows) for row in rows]):
        raise BadTable("the rows are not a square")


def det_by_orders(rows):
    """Return the determinant of a square as the sum of a term for each order."""
    check_square(rows)
    return sum([sign * term(rows, order) for order, sign in signed_orders(len(rows))]) % PRIME


def term(rows, order):
    """Return the product of the numbers that the rows have in the columns of the order."""
    product = 1
    for row, column in zip(rows, order):
        product = product * row[column] % PRIME
    return product


def determinant(rows):
    """Return the determinant of a square, by clearing one column after another."""
    check_square(rows)
    rest = [[number % PRIME for number in row] for row in rows]
    result = 1
    while rest:
        filled = [k for k, row in enumerate(rest) if row[0] != 0]
        if not filled:
            return 0
        at = filled[0]
        pivot = rest[at]
        # Each step that moves the pivot row up to the top turns the sign.
        result = result * pivot[0] * (1 if at % 2 == 0 else -1) % PRIME
        rest = cleared(rest[:at] + rest[at + 1:], pivot)
    return result


def cleared(rows, pivot):
    """Return the rows less such multiples of the pivot row that their first column is 0.

    That column is left out.
    """
    factor = inverse(pivot[0])
    return [
        [(a - row[0] * factor * b) % PRIME for a, b in zip(row[1:], pivot[1:])]
        for row in rows
    ]


def difference_product(numbers):
    """Return the product of each later number minus each earlier one."""
    product = 1
    for at, number in enumerate(numbers):
        for later in numbers[at + 1:]:
            product = product * (later - number) % PRIME
    return product
