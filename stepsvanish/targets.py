"""Finite commutative groups that are given by lists of moduli."""

from math import lcm

from stepsvanish.errors import InvalidIndex, InvalidTarget, InvalidValue, LimitExceeded
from stepsvanish.groups import LIMIT, Group


class Target:
    """A target; its values are tuples with one integer for each modulus."""

    def __init__(self, moduli):
        order = 1
        exponent = 1
        for modulus in moduli:
            if modulus < 2:
                raise InvalidTarget("a modulus is below 2")
            order = order * modulus
            exponent = lcm(exponent, modulus)
        if order > LIMIT:
            raise LimitExceeded("the target has more than 32 values")
        self.moduli = tuple(moduli)
        self.order = order
        self.exponent = exponent
        self.zero = (0,) * len(moduli)

    def __eq__(self, other):
        return isinstance(other, Target) and self.moduli == other.moduli

    def is_value(self, value):
        """True if the tuple of integers is a value of the target."""
        if len(value) != len(self.moduli):
            return False
        return all([0 <= entry < modulus for entry, modulus in zip(value, self.moduli)])

    def plus(self, left, right):
        """The sum of two values."""
        return tuple([(a + b) % modulus for a, b, modulus in zip(left, right, self.moduli)])

    def minus(self, left, right):
        """The difference of two values."""
        return tuple([(a - b) % modulus for a, b, modulus in zip(left, right, self.moduli)])

    def times(self, factor, value):
        """The value multiplied by any integer."""
        return tuple([factor * entry % modulus for entry, modulus in zip(value, self.moduli)])

    def all_values(self):
        """The list of all values, ascending."""
        values = [()]
        for modulus in self.moduli:
            values = [(*value, entry) for value in values for entry in range(modulus)]
        return values

    def position(self, value):
        """The number of values that come before the value."""
        if not self.is_value(value):
            raise InvalidValue("the tuple is not a value of the target")
        position = 0
        for entry, modulus in zip(value, self.moduli):
            position = position * modulus + entry
        return position

    def value_at(self, position):
        """The value with the given position."""
        if not 0 <= position < self.order:
            raise InvalidIndex("the target has no value at the position")
        entries = []
        rest = position
        for modulus in reversed(self.moduli):
            entries.append(rest % modulus)
            rest = rest // modulus
        return tuple(entries[::-1])

    def as_group(self):
        """The target as a group, whose elements are the positions."""
        values = self.all_values()
        return Group([[self.position(self.plus(v, w)) for w in values] for v in values])


def only_modulus(target):
    """The modulus of a target that has exactly one; else InvalidTarget is raised."""
    if len(target.moduli) != 1:
        raise InvalidTarget("the target has not exactly one modulus")
    return target.moduli[0]
