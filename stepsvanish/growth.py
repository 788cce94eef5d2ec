"""How the numbers of maps grow with the degree, and maps up to translates."""

from stepsvanish.listing import count_on, number_of_maps
from stepsvanish.powers import power_chain, target_lattices


def greatest_degree(group, target):
    """The greatest degree of the maps that have a degree."""
    return len(growth(group, target)) - 2


def growth(group, target):
    """The numbers of maps of degree at most -1, 0, .. up to the greatest degree."""
    known = {modulus: power_chain(group, modulus) for modulus in target.moduli}
    chains = [known[modulus] for modulus in target.moduli]
    longest = max([len(chain) for chain in chains], default=1)
    numbers = []
    for exponent in range(longest):
        numbers.append(count_on([chain[min(exponent, len(chain) - 1)] for chain in chains]))
    return numbers


def number_with_degree(group, target, degree):
    """The number of maps with exactly this degree, an integer of at least -1."""
    number = number_of_maps(group, target, degree)
    if degree == -1:
        return number
    return number - number_of_maps(group, target, degree - 1)


def fixed_count(group, target, bound, element):
    """The number of listed maps that are equal to their translate by the element."""
    group.require([element])
    return _fixed(group, target_lattices(group, target, bound + 1), element)


def class_count(group, target, bound):
    """The number of classes of listed maps, where translates are in one class."""
    lattices = target_lattices(group, target, bound + 1)
    total = sum([_fixed(group, lattices, element) for element in range(group.order)])
    return total // group.order


def _fixed(group, lattices, element):
    vectors = []
    for x, image in enumerate(group.rows[element]):
        vector = [0] * group.order
        vector[image] = 1
        vector[x] = vector[x] - 1
        vectors.append(vector)
    return count_on([lattice.joined(vectors) for lattice in lattices])
