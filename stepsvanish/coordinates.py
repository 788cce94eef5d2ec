"""Coordinates of the elements of groups of prime power order."""

from stepsvanish.errors import InvalidVector
from stepsvanish.maps import GroupMap
from stepsvanish.residuals import require_prime_power
from stepsvanish.sums import difference_product
from stepsvanish.targets import Target
from stepsvanish.weights import dimension_series


def weight_basis(group, prime):
    """The weight basis, a list of tuples (weight, element)."""
    require_prime_power(group.order, prime)
    series = dimension_series(group, prime)
    basis = []
    for at, following in enumerate(series[1:]):
        chosen = list(following)
        for x in series[at]:
            if x not in group.generated(chosen):
                chosen.append(x)
                basis.append((at + 1, x))
    return basis


def exponents_of(group, prime, element):
    """The exponents of the element, one for each entry of the weight basis."""
    ordered = ordered_exponents(group, prime)
    group.require([element])
    return [exponents for exponents, x in ordered if x == element][0]


def element_of(group, prime, exponents):
    """The product of the powers of the basis with the given exponents."""
    basis = weight_basis(group, prime)
    require_count(basis, exponents)
    product = 0
    for (_, member), exponent in zip(basis, exponents):
        product = group.rows[product][group.power(member, exponent)]
    return product


def coordinate_maps(group, prime):
    """The maps that assign to each element one of its exponents."""
    ordered = ordered_exponents(group, prime)
    rows = [[]] * group.order
    for exponents, x in ordered:
        rows[x] = exponents
    # A prime above 32 gives no target, but then there is no map to make.
    columns = [list(column) for column in zip(*rows)]
    return [GroupMap.from_parts(group, Target([prime]), [column]) for column in columns]


def basis_sum(group, prime, exponents):
    """The coefficients of the basis sum for the exponents, modulo the prime."""
    basis = weight_basis(group, prime)
    require_count(basis, exponents)
    members = []
    for (_, member), exponent in zip(basis, exponents):
        if not 0 <= exponent < prime:
            raise InvalidVector("an exponent is not below the prime number")
        members.extend([member] * exponent)
    coefficients = difference_product(group, members).coefficients
    return [coefficient % prime for coefficient in coefficients]


def ordered_exponents(group, prime):
    """The tuples (exponents, element) in ascending order of the exponents."""
    reached = [([], 0)]
    for _, member in weight_basis(group, prime):
        powers = [group.power(member, exponent) for exponent in range(prime)]
        reached = [
            ([*exponents, at], group.rows[x][power])
            for exponents, x in reached
            for at, power in enumerate(powers)
        ]
    return reached


def require_count(basis, exponents):
    """Raise InvalidVector unless there is one exponent for each entry of the basis."""
    if len(exponents) != len(basis):
        raise InvalidVector("there is not one exponent for each entry of the weight basis")
