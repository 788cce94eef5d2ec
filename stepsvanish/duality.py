"""Inner products of maps, and the maps that are orthogonal to a bound."""

from stepsvanish.errors import InvalidModulus, Mismatch
from stepsvanish.lattices import product_sum
from stepsvanish.powers import power_chain, power_lattice
from stepsvanish.residuals import require_prime_power
from stepsvanish.targets import only_modulus


def inner_product(f, g):
    """The sum of the products of the images, modulo the only modulus."""
    if f.group != g.group or f.target != g.target:
        raise Mismatch("the groups or the targets of the maps differ")
    modulus = only_modulus(f.target)
    return product_sum(f.part(0), g.part(0)) % modulus


def is_orthogonal(f, bound):
    """True if the inner products with all maps of degree at most the bound are 0."""
    modulus = only_modulus(f.target)
    return power_lattice(f.group, bound + 1, modulus).contains(f.part(0))


def orthogonal_count(group, modulus, bound):
    """The number of the maps that are orthogonal to the bound."""
    if modulus < 2:
        raise InvalidModulus("the modulus is below 2")
    count = 1
    for radix in power_lattice(group, bound + 1, modulus).radices():
        count = count * (modulus // radix)
    return count


def dual_bound(group, prime, bound):
    """The greatest degree of the maps that are orthogonal to the bound."""
    require_prime_power(group.order, prime)
    greatest = len(power_chain(group, prime)) - 2
    return max(-1, greatest - 1 - bound)
