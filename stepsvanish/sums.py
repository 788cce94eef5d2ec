"""Formal sums of the elements of a group."""

from stepsvanish.errors import InvalidVector, Mismatch
from stepsvanish.powers import chain_steps, multiplied, shifted


class FormalSum:
    """A group with one integer for each element, the coefficients."""

    def __init__(self, group, coefficients):
        if len(coefficients) != group.order:
            raise InvalidVector("there is not one coefficient for each element")
        self.group = group
        self.coefficients = tuple(coefficients)

    @staticmethod
    def element(group, element):
        """The formal sum with the coefficient 1 at one element and 0 elsewhere."""
        group.require([element])
        coefficients = [0] * group.order
        coefficients[element] = 1
        return FormalSum(group, coefficients)

    def __eq__(self, other):
        return (
            isinstance(other, FormalSum)
            and self.group == other.group
            and self.coefficients == other.coefficients
        )

    def __add__(self, other):
        self._require_same(other)
        coefficients = [a + b for a, b in zip(self.coefficients, other.coefficients)]
        return FormalSum(self.group, coefficients)

    def __sub__(self, other):
        self._require_same(other)
        coefficients = [a - b for a, b in zip(self.coefficients, other.coefficients)]
        return FormalSum(self.group, coefficients)

    def __neg__(self):
        return FormalSum(self.group, [-coefficient for coefficient in self.coefficients])

    def __mul__(self, other):
        self._require_same(other)
        return FormalSum(self.group, multiplied(self.group, self.coefficients, other.coefficients))

    def _require_same(self, other):
        if self.group != other.group:
            raise Mismatch("the groups of the formal sums differ")

    def scaled(self, factor):
        """Each coefficient multiplied by any integer."""
        return FormalSum(self.group, [factor * coefficient for coefficient in self.coefficients])

    def augmentation(self):
        """The sum of the coefficients."""
        return sum(self.coefficients)


def difference_product(group, members):
    """The product of the formal sums "a minus identity" for the elements of a list."""
    coefficients = [1] + [0] * (group.order - 1)
    for member in members:
        coefficients = shifted(group, coefficients, member)
    return FormalSum(group, coefficients)


def depth(formal_sum, modulus):
    """The greatest exponent whose power lattice contains the formal sum, or None."""
    for exponent, lattice in enumerate(chain_steps(formal_sum.group, modulus)):
        if not lattice.contains(formal_sum.coefficients):
            return exponent - 1
    return None
