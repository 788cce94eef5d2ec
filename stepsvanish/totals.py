"""Totals of maps, and the values of maps of bounded degree at formal sums."""

from math import gcd

from stepsvanish.choices import filled
from stepsvanish.errors import InvalidValue, InvalidVector
from stepsvanish.listing import count_on
from stepsvanish.maps import GroupMap
from stepsvanish.powers import power_lattice, target_lattices
from stepsvanish.sums import FormalSum, depth


def total(f):
    """The sum of all images."""
    return f.evaluate([1] * f.group.order)


def total_over(f, places):
    """The sum of the images at the places."""
    f.group.require(places)
    return f.evaluate([int(x in places) for x in range(f.group.order)])


def totals_vanish(group, target, bound, coefficients):
    """True if all maps of degree at most the bound are zero at the formal sum."""
    lattice = power_lattice(group, bound + 1, target.exponent)
    return lattice.contains(coefficients)


def nonvanishing_map(group, target, bound, coefficients):
    """A map of degree at most the bound that is not zero at the formal sum, or None."""
    _require_coefficients(group, coefficients)
    for at, lattice in enumerate(target_lattices(group, target, bound + 1)):
        rest = lattice.remainder(coefficients)
        if any(rest):
            parts = [[0] * group.order for modulus in target.moduli]
            parts[at] = _nonvanishing_part(lattice, rest)
            return GroupMap.from_parts(group, target, parts)
    return None


def total_order(group, modulus, bound, coefficients):
    """The least positive integer that brings the formal sum into the power lattice."""
    lattice = power_lattice(group, bound + 1, modulus)
    _require_coefficients(group, coefficients)
    return _order_on(lattice, coefficients)


def number_with_total(group, target, bound, coefficients, value):
    """The number of maps of degree at most the bound with the value at the formal sum."""
    _require_coefficients(group, coefficients)
    if not target.is_value(value):
        raise InvalidValue("the tuple is not a value of the target")
    number, spacings = _occurring(group, target, bound, coefficients)
    return number if _occurs(value, spacings) else 0


def total_counts(group, target, bound, coefficients):
    """The numbers of maps for all values that occur at the formal sum."""
    _require_coefficients(group, coefficients)
    number, spacings = _occurring(group, target, bound, coefficients)
    return {value: number for value in target.all_values() if _occurs(value, spacings)}


def total_bound(group, modulus):
    """The greatest bound up to which all totals are zero, or None if all are."""
    found = depth(FormalSum(group, [1] * group.order), modulus)
    if found is None:
        return None
    return found - 1


def moved(f, coefficients):
    """The map that assigns to x the sum of q[y] f(xy), for the formal sum q."""
    _require_coefficients(f.group, coefficients)
    images = []
    for row in f.group.rows:
        value = f.target.zero
        for coefficient, place in zip(coefficients, row):
            value = f.target.plus(value, f.target.times(coefficient, f.images[place]))
        images.append(value)
    return GroupMap(f.group, f.target, images)


def _require_coefficients(group, coefficients):
    if len(coefficients) != group.order:
        raise InvalidVector("there is not one coefficient for each element")


def _nonvanishing_part(lattice, rest):
    """The images of a map that is not 0 at a remainder other than 0."""
    place = max([at for at, entry in enumerate(rest) if entry != 0])
    # The second choice at the last place of the remainder, else the least ones.
    digits = [1] + [0] * (lattice.width - place - 1)
    return filled(lattice, [0] * place, digits)


def _order_on(lattice, coefficients):
    """The least positive integer that brings the vector into the lattice."""
    order = 1
    rest = [coefficient % lattice.modulus for coefficient in coefficients]
    for place in reversed(range(lattice.width)):
        row = lattice.rows[place]
        factor = row[place] // gcd(row[place], rest[place])
        lowered = factor * rest[place] // row[place]
        rest = [(factor * a - lowered * b) % lattice.modulus for a, b in zip(rest, row)]
        order = order * factor
    return order


def _occurring(group, target, bound, coefficients):
    """The number of maps for each value that occurs, and the spacings of its parts."""
    lattices = target_lattices(group, target, bound + 1)
    orders = [_order_on(lattice, coefficients) for lattice in lattices]
    number = count_on(lattices)
    for order in orders:
        number = number // order
    return number, [lattice.modulus // order for lattice, order in zip(lattices, orders)]


def _occurs(value, spacings):
    return not any([entry % spacing for entry, spacing in zip(value, spacings)])
