"""Maps into the integers modulo a prime as polynomials in the exponents of elements."""

from stepsvanish.coordinates import ordered_exponents, require_count, weight_basis
from stepsvanish.errors import InvalidTarget, InvalidVector
from stepsvanish.maps import GroupMap
from stepsvanish.numbers import is_prime
from stepsvanish.series import binomial
from stepsvanish.targets import Target, only_modulus


def coefficients_of(f):
    """The polynomial of the map, with coefficients from 1 to the prime minus one."""
    prime = only_modulus(f.target)
    if not is_prime(prime):
        raise InvalidTarget("the modulus is not a prime number")
    ordered = ordered_exponents(f.group, prime)
    numbers = [f.images[x][0] for _, x in ordered]
    for _ in ordered[0][0]:
        numbers = _next_differences(numbers, prime)
    found = {}
    for (exponents, _), number in zip(ordered, numbers):
        if number != 0:
            found[tuple(exponents)] = number
    return found


def from_coefficients(group, prime, coefficients):
    """The map of a polynomial, whose coefficients may be any integers."""
    ordered = ordered_exponents(group, prime)
    for exponents in coefficients:
        if len(exponents) != len(ordered[0][0]):
            raise InvalidVector("the length of a key is not that of the weight basis")
        if not all([0 <= exponent < prime for exponent in exponents]):
            raise InvalidVector("an entry of a key is not below the prime number")
    target = Target([prime])
    numbers = [0] * group.order
    for place, x in ordered:
        numbers[x] = _value_at(coefficients, place)
    return GroupMap.from_parts(group, target, [numbers])


def weight_of(group, prime, exponents):
    """The weight of a list or a tuple of integers, one for each entry of the basis."""
    basis = weight_basis(group, prime)
    require_count(basis, exponents)
    return sum([weight * exponent for (weight, _), exponent in zip(basis, exponents)])


def _next_differences(numbers, prime):
    """The repeated differences along the first index, which then becomes the last one."""
    size = len(numbers) // prime
    blocks = [numbers[size * at : size * (at + 1)] for at in range(prime)]
    found = []
    while len(blocks) > 0:
        found.append(blocks[0])
        blocks = [_block_step(low, high, prime) for low, high in zip(blocks, blocks[1:])]
    return [block[at] for at in range(size) for block in found]


def _block_step(low, high, prime):
    return [(b - a) % prime for a, b in zip(low, high)]


def _value_at(coefficients, place):
    """The value of the polynomial at the exponents of an element."""
    value = 0
    for exponents in coefficients:
        term = coefficients[exponents]
        for top, bottom in zip(place, exponents):
            term = term * binomial(top, bottom)
        value = value + term
    return value
