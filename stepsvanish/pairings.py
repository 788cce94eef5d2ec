"""Pairings: products of values of two targets that are additive in both."""

from math import gcd

from stepsvanish.choices import digits_of
from stepsvanish.errors import InvalidPairing, InvalidValue, Mismatch
from stepsvanish.maps import GroupMap


class Pairing:
    """A pairing that is given by what it assigns to the units of two targets."""

    def __init__(self, left, right, result, table):
        rows = tuple([tuple(row) for row in table])
        if not _has_shape(rows, left, right):
            raise InvalidPairing("there is not one entry for each two moduli")
        for first, row in zip(left.moduli, rows):
            for second, entry in zip(right.moduli, row):
                if not result.is_value(entry):
                    raise InvalidPairing("an entry is not a value of the result")
                multiples = [result.times(first, entry), result.times(second, entry)]
                if multiples != [result.zero, result.zero]:
                    raise InvalidPairing("a modulus times its entry is not zero")
        self.left = left
        self.right = right
        self.result = result
        self.table = rows

    @staticmethod
    def by_parts(target):
        """The pairing that multiplies two values part by part."""
        places = range(len(target.moduli))
        units = [tuple([int(i == j) for j in places]) for i in places]
        table = [[units[i] if i == j else target.zero for j in places] for i in places]
        return Pairing(target, target, target, table)

    def __call__(self, v, w):
        if not self.left.is_value(v) or not self.right.is_value(w):
            raise InvalidValue("a tuple is not a value of its target")
        value = self.result.zero
        for first, row in zip(v, self.table):
            for second, entry in zip(w, row):
                value = self.result.plus(value, self.result.times(first * second, entry))
        return value

    def __eq__(self, other):
        return (
            isinstance(other, Pairing)
            and self.left == other.left
            and self.right == other.right
            and self.result == other.result
            and self.table == other.table
        )

    def __add__(self, other):
        if self.left != other.left or self.right != other.right or self.result != other.result:
            raise Mismatch("the targets of the pairings differ")
        table = []
        for upper, lower in zip(self.table, other.table):
            table.append([self.result.plus(v, w) for v, w in zip(upper, lower)])
        return Pairing(self.left, self.right, self.result, table)

    def __neg__(self):
        return self._scaled(-1)

    def __mul__(self, factor):
        return self._scaled(factor)

    def __rmul__(self, factor):
        return self._scaled(factor)

    def _scaled(self, factor):
        table = [[self.result.times(factor, entry) for entry in row] for row in self.table]
        return Pairing(self.left, self.right, self.result, table)

    def flipped(self):
        """The pairing with the two arguments exchanged."""
        table = [[row[j] for row in self.table] for j in range(len(self.right.moduli))]
        return Pairing(self.right, self.left, self.result, table)


def number_of_pairings(left, right, result):
    """The number of the pairings of two targets with a result."""
    number = 1
    for count in _counts(left, right, result):
        number = number * count
    return number


def all_pairings(left, right, result):
    """Yield the pairings of two targets with a result, in ascending order of their tables."""
    counts = _counts(left, right, result)
    for position in range(number_of_pairings(left, right, result)):
        yield _pairing_with(left, right, result, digits_of(position, counts))


def product(f, g, pairing):
    """The map that assigns to x what the pairing assigns to f(x) and g(x)."""
    if f.group != g.group:
        raise Mismatch("the groups of the maps differ")
    if f.target != pairing.left or g.target != pairing.right:
        raise Mismatch("a target is not that of the pairing")
    images = [pairing(v, w) for v, w in zip(f.images, g.images)]
    return GroupMap(f.group, pairing.result, images)


def _has_shape(rows, left, right):
    if len(rows) != len(left.moduli):
        return False
    return all([len(row) == len(right.moduli) for row in rows])


def _counts(left, right, result):
    """The numbers of choices for each part of each entry of a table, in their order."""
    pairs = [gcd(first, second) for first in left.moduli for second in right.moduli]
    return [gcd(divisor, modulus) for divisor in pairs for modulus in result.moduli]


def _pairing_with(left, right, result, digits):
    """The pairing whose parts are chosen by the digits."""
    table = []
    at = 0
    for first in left.moduli:
        row = []
        for second in right.moduli:
            divisor = gcd(first, second)
            chosen = digits[at : at + len(result.moduli)]
            # Multiples of m / count are the integers that both moduli bring to 0.
            parts = [m // gcd(divisor, m) * digit for m, digit in zip(result.moduli, chosen)]
            row.append(tuple(parts))
            at = at + len(result.moduli)
        table.append(row)
    return Pairing(left, right, result, table)
