"""Common zeros of maps, and powers of a prime that divide their number."""

from stepsvanish.errors import Mismatch
from stepsvanish.residuals import require_prime, require_prime_power
from stepsvanish.totals import total_bound


def common_zeros(group, maps):
    """The elements at which all maps of the list are zero, ascending."""
    _require_group(group, maps)
    zeros = list(range(group.order))
    for f in maps:
        zeros = [x for x in zeros if f.images[x] == f.target.zero]
    return zeros


def solution_counts(group, maps):
    """The number of elements for each tuple of images that occurs."""
    _require_group(group, maps)
    tuples = [tuple([f.images[x] for f in maps]) for x in range(group.order)]
    counts = {}
    for images in sorted(tuples):
        counts[images] = counts.get(images, 0) + 1
    return counts


def value_degree(target, prime, exponent):
    """The greatest degree of the maps from the target to the integers modulo a prime power."""
    require_prime_power(target.order, prime)
    if target.order == 1:
        return 0
    greatest = max(target.moduli)
    extra = (exponent - 1) * (greatest - greatest // prime)
    return sum(target.moduli) - len(target.moduli) + extra


def promised_exponent(group, prime, conditions):
    """The greatest exponent whose power of the prime surely divides all solution counts."""
    require_prime(prime)
    for _, target in conditions:
        require_prime_power(target.order, prime)
    exponent = 0
    power = prime
    while _is_promised(group, prime, conditions, exponent + 1, power):
        exponent = exponent + 1
        power = power * prime
    return exponent


def _require_group(group, maps):
    for f in maps:
        if f.group != group:
            raise Mismatch("a map has another group")


def _is_promised(group, prime, conditions, exponent, power):
    demand = 0
    for bound, target in conditions:
        demand = demand + max(bound, 0) * value_degree(target, prime, exponent)
    found = total_bound(group, power)
    return found is None or found >= demand
