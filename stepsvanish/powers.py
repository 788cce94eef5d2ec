"""The powers of the set of formal sums whose coefficients add up to 0."""

from stepsvanish.errors import InvalidVector
from stepsvanish.lattices import Lattice

# Up to 2 to this number of steps are taken one by one before exponents are doubled.
_STEP_BITS = 7


def multiplied(group, first, second):
    """The coefficients of the product of two formal sums."""
    result = [0 for entry in first]
    for row, left in zip(group.rows, first):
        if left != 0:
            for place, right in zip(row, second):
                result[place] = result[place] + left * right
    return result


def shifted(group, coefficients, element):
    """The coefficients of the product with the formal sum "element minus identity"."""
    if len(coefficients) != group.order:
        raise InvalidVector("there is not one coefficient for each element")
    group.require([element])
    inverse = group.inverses[element]
    return [coefficients[row[inverse]] - old for row, old in zip(group.rows, coefficients)]


def power_lattice(group, exponent, modulus):
    """The power lattice for an exponent of at least 0 and a modulus."""
    lattice = _whole_lattice(group, modulus)
    doublings = max(0, exponent.bit_length() - _STEP_BITS)
    for _ in range(exponent >> doublings):
        following = following_power(group, lattice)
        if following == lattice:
            return lattice
        lattice = following
    # Doubling keeps very long chains, which large moduli have, within reach.
    for at in reversed(range(doublings)):
        doubled = _squared(group, lattice)
        if doubled == lattice:
            return lattice
        lattice = doubled
        if (exponent >> at) % 2 == 1:
            lattice = following_power(group, lattice)
    return lattice


def target_lattices(group, target, exponent):
    """The power lattices for the exponent and each modulus of the target."""
    known = {}
    for modulus in target.moduli:
        if modulus not in known:
            known[modulus] = power_lattice(group, exponent, modulus)
    return [known[modulus] for modulus in target.moduli]


def power_chain(group, modulus):
    """The power lattices for 0, 1, .. up to the first that equals the next one."""
    return list(chain_steps(group, modulus))


def chain_steps(group, modulus):
    """Yield the lattices of the power chain, each when it is asked for."""
    lattice = _whole_lattice(group, modulus)
    yield lattice
    following = following_power(group, lattice)
    while following != lattice:
        lattice = following
        yield lattice
        following = following_power(group, lattice)


def following_power(group, lattice):
    """The power lattice for the exponent after that of the given one."""
    generators = group.generators()
    vectors = [shifted(group, row, element) for row in lattice.rows for element in generators]
    return Lattice(vectors, lattice.width, lattice.modulus)


def _whole_lattice(group, modulus):
    vectors = [[0] * place + [1] + [0] * (group.order - place - 1) for place in range(group.order)]
    return Lattice(vectors, group.order, modulus)


def _squared(group, lattice):
    """The power lattice for twice the exponent of the given one."""
    # A row whose radix is the modulus has no other entry and adds nothing.
    rows = [row for row in lattice.rows if max(row) < lattice.modulus]
    vectors = [multiplied(group, left, right) for left in rows for right in rows]
    return Lattice(vectors, lattice.width, lattice.modulus)
