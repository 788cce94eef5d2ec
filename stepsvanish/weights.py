"""The dimension subgroups of a group for a prime, and the weights that they give."""

from stepsvanish.residuals import require_prime, residual
from stepsvanish.subgroups import commuted


def dimension_subgroup(group, prime, exponent):
    """The dimension subgroup for an exponent of at least 0, ascending."""
    series = dimension_series(group, prime)
    at = max(1, min(exponent, len(series)))
    return series[at - 1]


def dimension_series(group, prime):
    """The dimension subgroups for 1, 2, .. up to the first that is the residual."""
    last = residual(group, prime)
    series = [list(range(group.order))]
    while series[-1] != last:
        series.append(_following(group, prime, series))
    return series


def element_weight(group, prime, element):
    """The greatest exponent of a dimension subgroup with the element, or None."""
    series = dimension_series(group, prime)
    group.require([element])
    if element in series[-1]:
        return None
    return len([members for members in series if element in members])


def dimension_ranks(group, prime):
    """The ranks for the weights 1, 2, .. up to the last positive one."""
    series = dimension_series(group, prime)
    ranks = []
    for larger, smaller in zip(series, series[1:]):
        rank = 0
        index = len(larger) // len(smaller)
        while index > 1:
            index = index // prime
            rank = rank + 1
        ranks.append(rank)
    return ranks


def weight_counts(group, prime):
    """The coefficients of the product of the factors that the ranks give."""
    counts = [1]
    for at, rank in enumerate(dimension_ranks(group, prime)):
        for _ in range(rank):
            counts = _multiplied(counts, at + 1, prime)
    return counts


def _following(group, prime, series):
    """The dimension subgroup after those of a series."""
    weight = len(series) + 1
    # Commutators with all elements are enough; those of two later members of
    # the series add nothing.
    members = commuted(group, series[-1])
    # The least integer not below weight / prime.
    lower = series[(weight + prime - 1) // prime - 1]
    return group.generated(members + [group.power(x, prime) for x in lower])


def _multiplied(counts, weight, prime):
    """The polynomial times 1 + t^w + t^(2w) + .. + t^((p-1)w)."""
    result = [0] * (len(counts) + weight * (prime - 1))
    for at, count in enumerate(counts):
        for factor in range(prime):
            place = at + factor * weight
            result[place] = result[place] + count
    return result
