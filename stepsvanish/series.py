"""Series: maps on all integers that are sums of binomial coefficients."""

from math import lcm

from stepsvanish.errors import InvalidModulus, InvalidVector, Mismatch, NoDegree
from stepsvanish.lattices import product_sum
from stepsvanish.numbers import factored


def binomial(top, bottom):
    """The binomial coefficient of any integer and an integer of at least 0."""
    result = 1
    for at in range(bottom):
        # The quotient is binomial(top, at + 1), so nothing remains.
        result = result * (top - at) // (at + 1)
    return result


class Series:
    """The map that assigns the sum of coefficients times binomials to an integer."""

    def __init__(self, modulus, coefficients):
        if modulus < 1:
            raise InvalidModulus("the modulus is below 1")
        reduced = [coefficient % modulus for coefficient in coefficients]
        count = len(reduced)
        while count > 0 and reduced[count - 1] == 0:
            count = count - 1
        self.modulus = modulus
        self.coefficients = tuple(reduced[:count])

    @staticmethod
    def from_values(values, modulus):
        """The series that runs through the list of integers again and again."""
        if modulus < 1:
            raise InvalidModulus("the modulus is below 1")
        if len(values) == 0:
            raise InvalidVector("there are no values")
        bound = 0
        for prime, exponent in factored(modulus):
            shift = _greatest_power(prime, len(values))
            power = _greatest_power(prime, modulus)
            if not _repeats(values, shift, power):
                raise NoDegree("no series has these values")
            if shift > 1:
                bound = max(bound, shift - 1 + (exponent - 1) * (shift - shift // prime))
        known = [values[x % len(values)] for x in range(bound + 1)]
        return Series(modulus, _differences(known, modulus))

    def __call__(self, x):
        row = _binomials(x, len(self.coefficients), self.modulus)
        return product_sum(self.coefficients, row) % self.modulus

    def __eq__(self, other):
        return (
            isinstance(other, Series)
            and self.modulus == other.modulus
            and self.coefficients == other.coefficients
        )

    def __add__(self, other):
        self._require_same(other)
        first, second = _same_length(self.coefficients, other.coefficients)
        return Series(self.modulus, [a + b for a, b in zip(first, second)])

    def __sub__(self, other):
        self._require_same(other)
        first, second = _same_length(self.coefficients, other.coefficients)
        return Series(self.modulus, [a - b for a, b in zip(first, second)])

    def __neg__(self):
        return Series(self.modulus, [-coefficient for coefficient in self.coefficients])

    def __mul__(self, other):
        self._require_same(other)
        # The product has at most one kept coefficient less than so many.
        count = len(self.coefficients) + len(other.coefficients)
        first = _first_values(self.coefficients, count, self.modulus)
        second = _first_values(other.coefficients, count, self.modulus)
        products = [a * b for a, b in zip(first, second)]
        return Series(self.modulus, _differences(products, self.modulus))

    def _require_same(self, other):
        if self.modulus != other.modulus:
            raise Mismatch("the moduli of the series differ")

    def difference(self, by=1):
        """The series that assigns s(x + by) - s(x) to x."""
        count = len(self.coefficients)
        row = _binomials(by, count, self.modulus)
        return Series(
            self.modulus,
            [product_sum(row[1:], self.coefficients[k + 1 :]) for k in range(count)],
        )

    def running_sum(self):
        """The series that is 0 at 0 and has this one as its difference by 1."""
        return Series(self.modulus, [0, *self.coefficients])

    def degree(self):
        """The greatest index of a kept coefficient, or -1."""
        return len(self.coefficients) - 1

    def period(self):
        """The least positive integer by which the series can be moved onto itself."""
        period = 1
        for prime, _ in factored(self.modulus):
            part = Series(_greatest_power(prime, self.modulus), self.coefficients)
            shift = 1
            while part.difference(shift).coefficients != ():
                shift = shift * prime
            period = period * shift
        return period


def _greatest_power(prime, number):
    """The greatest power of the prime that divides a positive integer."""
    power = 1
    while number % (power * prime) == 0:
        power = power * prime
    return power


def _repeats(values, shift, modulus):
    """True if the list, run through again and again, repeats after the shift."""
    count = len(values)
    return all([(values[(x + shift) % count] - values[x]) % modulus == 0 for x in range(count)])


def _binomials(top, count, modulus):
    """The binomial coefficients of an integer and 0, 1, .., modulo the modulus."""
    # Binomial coefficients with a bottom below the count do not change, modulo
    # the modulus, if this many is added to the top. So huge tops become small.
    period = modulus
    for bottom in range(1, count):
        period = lcm(period, modulus * bottom)
    low = top
    if abs(top) > period:
        low = top % period
    row = []
    entry = 1
    for bottom in range(count):
        row.append(entry % modulus)
        entry = entry * (low - bottom) // (bottom + 1)
    return row


def _first_values(coefficients, count, modulus):
    """The values at 0, 1, .. of the series with the coefficients."""
    row = [*coefficients, 0]
    found = []
    for _ in range(count):
        found.append(row[0])
        row = [(a + b) % modulus for a, b in zip(row, [*row[1:], 0])]
    return found


def _differences(numbers, modulus):
    """The repeated differences of the numbers, at the first one, modulo the modulus."""
    row = [number % modulus for number in numbers]
    found = []
    while len(row) > 0:
        found.append(row[0])
        row = [(b - a) % modulus for a, b in zip(row, row[1:])]
    return found


def _same_length(first, second):
    """The two lists with zeros at the end of the shorter one."""
    count = max(len(first), len(second))
    return (
        list(first) + [0] * (count - len(first)),
        list(second) + [0] * (count - len(second)),
    )
