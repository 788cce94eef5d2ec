"""Places: which images determine others, and which can be chosen freely."""

from stepsvanish.choices import in_order
from stepsvanish.powers import power_lattice, target_lattices
from stepsvanish.residuals import require_prime


def closure(group, target, bound, places):
    """The elements that are determined by the places, ascending."""
    group.require(places)
    lattices = target_lattices(group, target, bound + 1)
    return determined_on(lattices, group.order, places)


def determined_on(lattices, order, places):
    """The elements that are determined by the places, for the lattices of a bound."""
    determined = list(range(order))
    for lattice in lattices:
        joined = _joined(lattice, places)
        determined = [x for x in determined if joined.contains(_unit(order, x))]
    return determined


def determines(group, target, bound, places):
    """True if every element is determined by the places."""
    return len(closure(group, target, bound, places)) == group.order


def is_free(group, target, bound, places):
    """True if every choice of images at the places belongs to some map."""
    group.require(places)
    for lattice in target_lattices(group, target, bound + 1):
        ordered, _ = _places_first(lattice, places)
        for at in range(len(places)):
            # A row of a smaller radix is a relation between the images.
            if ordered.rows[at][at] != lattice.modulus:
                return False
    return True


def relations(group, modulus, bound, places):
    """The relations of the places, in ascending order of the places."""
    lattice = power_lattice(group, bound + 1, modulus)
    group.require(places)
    ordered, sequence = _places_first(lattice, places)
    return [in_order(sequence, row) for row in ordered.rows[: len(places)]]


def completing_places(group, prime, bound, places):
    """The first of the shortest lists that determine all elements with the places."""
    require_prime(prime)
    group.require(places)
    joined = _joined(power_lattice(group, bound + 1, prime), places)
    return [x for x, radix in enumerate(joined.radices()) if radix == prime]


def least_places(group, prime, bound):
    """The first of the shortest lists of places that determine all elements."""
    return completing_places(group, prime, bound, [])


def _unit(order, element):
    """The coefficients with 1 at the element and 0 elsewhere."""
    return [int(x == element) for x in range(order)]


def _joined(lattice, places):
    """The least lattice with the vectors of the lattice and the units of the places."""
    return lattice.joined([_unit(lattice.width, place) for place in places])


def _places_first(lattice, places):
    """The lattice with the entries of the places first, and the new order."""
    others = [x for x in range(lattice.width) if x not in places]
    sequence = sorted(places) + others
    return lattice.reordered(sequence), sequence
