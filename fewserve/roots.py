"""Schemes of roots: rows of sums of powers instead of minors, over a table of points."""

from fewserve.errors import BadSize
from fewserve.residues import PRIME, product_of
from fewserve.schemes import Scheme, check_full
from fewserve.tables import Table, powers


def exponents(size, most):
    """Return all tuples of integers from 0 to most that never descend, in ascending order."""
    found = [()]
    for _ in range(size):
        found = [
            chosen + (k,)
            for chosen in found
            for k in range(chosen[-1] if chosen else 0, most + 1)
        ]
    return found


def root_polynomial(numbers):
    """Return the coefficients of the product of all x - number, the power 0 first."""
    found = [1]
    for number in numbers:
        found = [(a - number * b) % PRIME for a, b in zip([0] + found, found + [0])]
    return found


class Roots(Scheme):
    """A scheme over a table of points whose pairings are products of differences."""

    def __init__(self, numbers, size, spare):
        if size < 0 or spare < 0:
            raise BadSize(size)
        super().__init__(Table.points(numbers, size + spare), size)
        self.numbers = [number % PRIME for number in numbers]

    def row(self, lot):
        """Return the row of a lot: a sum of products of powers for each tuple of exponents."""
        self.check(lot)
        sums = {(): 1}
        for thing in lot:
            sums = power_sums(sums, powers(self.numbers[thing], self.spare + 1))
        return [sums[chosen] for chosen in exponents(self.size, self.spare)]

    def corow(self, ask):
        """Return the opposite row of a full ask: products of coefficients of its polynomial."""
        check_full(self, ask)
        parts = root_polynomial([self.numbers[thing] for thing in ask])
        return [
            product_of([parts[power] for power in chosen]) % PRIME
            for chosen in exponents(self.size, self.spare)
        ]


def power_sums(sums, row):
    """Return the sums for one number more, whose powers are the row.

    Each rearrangement of a tuple is made once, by giving the number one exponent of the tuple and
    the numbers before it the others.
    """
    found = {}
    for chosen, total in sums.items():
        for exponent, power in enumerate(row):
            longer = tuple(sorted(chosen + (exponent,)))
            found[longer] = (found.get(longer, 0) + total * power) % PRIME
    return found
